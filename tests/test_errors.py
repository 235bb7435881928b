import unittest

from rainvalleys import errors
from samples import Thing

FIELDS = {
    "InvalidNumber": ("value", errors.RainError),
    "InvalidProfile": ("index", errors.RainError),
    "InvalidWidths": ("index", errors.RainError),
    "InvalidWeights": ("index", errors.RainError),
    "InvalidObservations": ("index", errors.RainError),
    "InvalidOperations": ("index", errors.RainError),
    "ParseError": ("value", errors.RainError),
    "InvalidCommand": ("value", errors.RainError),
    "InvalidCascade": ("name", errors.RainError),
    "ScriptError": ("line", errors.RainError),
    "InvalidColumn": ("value", IndexError),
    "InvalidValley": ("value", IndexError),
    "UnknownName": ("name", KeyError),
    "LimitExceeded": ("limit", OverflowError),
    "NothingToUndo": ("count", RuntimeError),
}


def any_values():
    return [None, True, False, 0, -1, 10 ** 5000, "", "a", b"x", [], [1, [2]], (), (1,), {}, {"a": []}, {1, 2},
            Thing(), Thing, ValueError("x")]


class ErrorsTest(unittest.TestCase):
    def test_rain_error_is_a_direct_value_error(self):
        self.assertEqual(errors.RainError.__bases__, (ValueError,))

    def test_direct_base_classes(self):
        for name, (field, base) in FIELDS.items():
            with self.subTest(name):
                self.assertEqual(getattr(errors, name).__bases__, (base,))

    def test_every_class_is_defined_in_this_file(self):
        for name in [*FIELDS, "RainError"]:
            self.assertEqual(getattr(errors, name).__module__, "rainvalleys.errors")

    def test_field_by_position_and_by_name_is_the_value_itself(self):
        for name, (field, base) in FIELDS.items():
            for value in any_values():
                with self.subTest(name):
                    by_position = getattr(errors, name)(value)
                    by_name = getattr(errors, name)(**{field: value})
                    self.assertTrue(getattr(by_position, field) is value)
                    self.assertTrue(getattr(by_name, field) is value)
                    self.assertIsInstance(str(by_position), str)

    def test_the_field_is_required_and_the_only_one(self):
        for name in FIELDS:
            with self.subTest(name):
                self.assertRaises(TypeError, getattr(errors, name))
                self.assertRaises(TypeError, getattr(errors, name), 1, 2)

    def test_a_kept_list_is_not_copied(self):
        given = [1]
        error = errors.InvalidNumber(given)
        given.append(2)
        self.assertEqual(error.value, [1, 2])

    def test_no_error_is_an_instance_of_another_one(self):
        for name in FIELDS:
            for other in FIELDS:
                if name != other:
                    self.assertNotIsInstance(getattr(errors, name)(1), getattr(errors, other))

    def test_errors_can_be_raised_and_caught_by_their_bases(self):
        for name, (field, base) in FIELDS.items():
            with self.assertRaises(base) as caught:
                raise getattr(errors, name)("x")
            self.assertEqual(getattr(caught.exception, field), "x")


if __name__ == "__main__":
    unittest.main()
