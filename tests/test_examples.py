"""The examples of the document and of the README, with the answers that stand there."""

import doctest
import pathlib
import unittest

HERE = pathlib.Path(__file__).resolve().parent


class ExamplesTest(unittest.TestCase):
    def check_examples(self, path, least):
        failed, tried = doctest.testfile(str(path), module_relative=False)
        self.assertEqual(failed, 0)
        self.assertGreaterEqual(tried, least)

    def test_the_readme(self):
        self.check_examples(HERE.parent / "README.md", 20)

    def test_the_document(self):
        self.check_examples(HERE / "examples.txt", 83)


if __name__ == "__main__":
    unittest.main()
