import unittest

from rainvalleys.errors import InvalidNumber, ParseError
from rainvalleys.ratios import Ratio
from samples import Thing, no_integers, no_numbers

NINES = "9" * 1000


def parts(ratio):
    return ratio.top, ratio.bottom


class ConstructorTest(unittest.TestCase):
    def test_lowest_terms_and_positive_denominator(self):
        for given, expected in [((6, -4), (-3, 2)), ((6, 4), (3, 2)), ((-6, -4), (3, 2)), ((-6, 4), (-3, 2)),
                                ((0, -5), (0, 1)), ((0, 7), (0, 1)), ((7,), (7, 1)), ((-7, 7), (-1, 1)),
                                ((1, 10 ** 60 - 1), (1, 10 ** 60 - 1)), ((10 ** 59, 10 ** 58), (10, 1)),
                                ((5, 3), (5, 3)), ((12, 18), (2, 3))]:
            with self.subTest(given):
                self.assertEqual(parts(Ratio(*given)), expected)

    def test_all_small_fractions_are_exact(self):
        for numerator in range(-12, 13):
            for denominator in [*range(-12, 0), *range(1, 13)]:
                top, bottom = parts(Ratio(numerator, denominator))
                self.assertEqual(top * denominator, numerator * bottom)
                self.assertGreater(bottom, 0)
                for divisor in range(2, 13):
                    self.assertFalse(top % divisor == 0 and bottom % divisor == 0)

    def test_parts_are_integers_also_for_integers(self):
        self.assertEqual([kind.__class__ for kind in parts(Ratio(4, 2))], [int, int])

    def test_arguments_by_name(self):
        self.assertEqual(parts(Ratio(numerator=3)), (3, 1))
        self.assertEqual(parts(Ratio(denominator=-2, numerator=4)), (-2, 1))

    def test_invalid_numerator(self):
        for value in no_integers():
            with self.assertRaises(InvalidNumber) as caught:
                Ratio(value)
            self.assertTrue(caught.exception.value is value)

    def test_invalid_denominator(self):
        for value in [*no_integers(), 0]:
            with self.assertRaises(InvalidNumber) as caught:
                Ratio(1, value)
            self.assertTrue(caught.exception.value is value)

    def test_the_numerator_is_checked_first(self):
        for denominator in [0, "y", None, True]:
            with self.assertRaises(InvalidNumber) as caught:
                Ratio("x", denominator)
            self.assertEqual(caught.exception.value, "x")

    def test_the_parts_are_properties(self):
        ratio = Ratio(1, 2)
        for name in ["top", "bottom"]:
            with self.assertRaises(AttributeError):
                setattr(ratio, name, 5)
        self.assertEqual(parts(ratio), (1, 2))


class TextTest(unittest.TestCase):
    def test_str(self):
        for given, expected in [((6, -4), "-3/2"), ((4, 2), "2"), ((0, 5), "0"), ((-3,), "-3"), ((1, 3), "1/3")]:
            self.assertEqual(str(Ratio(*given)), expected)

    def test_repr(self):
        for given, expected in [((6, -4), "Ratio(-3, 2)"), ((4, 2), "Ratio(2, 1)"), ((0, 5), "Ratio(0, 1)")]:
            self.assertEqual(repr(Ratio(*given)), expected)

    def test_example_of_the_document(self):
        r = Ratio(6, -4)
        self.assertEqual([repr(r), str(r + 2), str(3 * r), r < -1, r == Ratio(-3, 2), str(r.over(3)), r.floor(),
                          str(Ratio.parse('5/3') - 1)],
                         ['Ratio(-3, 2)', '1/2', '-9/2', True, True, '-1/2', -2, '2/3'])


class ArithmeticTest(unittest.TestCase):
    def check(self, result, top, bottom=1):
        self.assertIsInstance(result, Ratio)
        self.assertEqual(parts(result), (top, bottom))

    def test_sums(self):
        self.check(Ratio(1, 2) + Ratio(1, 3), 5, 6)
        self.check(Ratio(1, 2) + Ratio(1, 2), 1)
        self.check(Ratio(1, 2) + 3, 7, 2)
        self.check(3 + Ratio(1, 2), 7, 2)
        self.check(Ratio(5) + -5, 0)

    def test_differences(self):
        self.check(Ratio(1, 2) - Ratio(1, 3), 1, 6)
        self.check(Ratio(1, 2) - 3, -5, 2)
        self.check(3 - Ratio(1, 2), 5, 2)
        self.check(0 - Ratio(1, 2), -1, 2)
        self.check(Ratio(7, 4) - Ratio(3, 4), 1)

    def test_products(self):
        self.check(Ratio(2, 3) * Ratio(3, 4), 1, 2)
        self.check(Ratio(2, 3) * 3, 2)
        self.check(3 * Ratio(2, 9), 2, 3)
        self.check(Ratio(2, 3) * 0, 0)
        self.check(-2 * Ratio(-1, 4), 1, 2)

    def test_minus_and_abs(self):
        self.check(-Ratio(3, 2), -3, 2)
        self.check(-Ratio(-3, 2), 3, 2)
        self.check(-Ratio(0), 0)
        self.check(abs(Ratio(-3, 2)), 3, 2)
        self.check(abs(Ratio(3, 2)), 3, 2)
        self.check(abs(Ratio(0)), 0)

    def test_over(self):
        self.check(Ratio(3, 2).over(3), 1, 2)
        self.check(Ratio(3, 2).over(-3), -1, 2)
        self.check(Ratio(3, 2).over(Ratio(-3, 4)), -2)
        self.check(Ratio(0).over(other=Ratio(5, 7)), 0)
        self.check(Ratio(1, 2).over(Ratio(2, 3)), 3, 4)

    def test_over_nothing_and_no_numbers(self):
        for value in [*no_numbers(), 0, Ratio(0), Ratio(0, -3)]:
            with self.assertRaises(InvalidNumber) as caught:
                Ratio(1, 2).over(value)
            self.assertTrue(caught.exception.value is value)

    def test_floor(self):
        for given, expected in [((3, 2), 1), ((-3, 2), -2), ((4, 2), 2), ((-4, 2), -2), ((0,), 0), ((1, 3), 0),
                                ((-1, 3), -1)]:
            found = Ratio(*given).floor()
            self.assertEqual(found, expected)
            self.assertEqual(found.__class__, int)

    def test_truth_value(self):
        self.assertFalse(Ratio(0, 5))
        for ratio in [Ratio(1, 5), Ratio(-1, 5), Ratio(1)]:
            self.assertTrue(ratio)
        self.assertEqual([bool(Ratio(0)), bool(Ratio(2))], [False, True])

    def test_operands_are_as_before(self):
        left, right = Ratio(1, 2), Ratio(-2, 3)
        left + right, left - right, left * right, left.over(right), -left, abs(right), 2 - left, left < right
        self.assertRaises(InvalidNumber, left.over, 0)
        self.assertRaises(InvalidNumber, left.over, "1")
        left.floor(), str(left), repr(right), left == right, left != right, bool(left)
        self.assertEqual([parts(left), parts(right)], [(1, 2), (-2, 3)])

    def test_laws_on_small_fractions(self):
        some = [Ratio(top, bottom) for top in range(-3, 4) for bottom in (1, 2, 3)]
        for left in some:
            for right in some:
                self.assertEqual(left + right, right + left)
                self.assertEqual(left + right - right, left)
                self.assertEqual(left * right, right * left)
                self.assertEqual(left - right, -(right - left))
                if right:
                    self.assertEqual((left * right).over(right), left)


class ComparisonTest(unittest.TestCase):
    def check(self, left, right, sign):
        self.assertEqual([left < right, left <= right, left > right, left >= right, left == right, left != right],
                         [sign < 0, sign <= 0, sign > 0, sign >= 0, sign == 0, sign != 0])

    def test_two_fractions(self):
        self.check(Ratio(1, 3), Ratio(1, 2), -1)
        self.check(Ratio(1, 2), Ratio(1, 3), 1)
        self.check(Ratio(2, 4), Ratio(1, 2), 0)
        self.check(Ratio(-1, 2), Ratio(-1, 3), -1)
        self.check(Ratio(-1, 2), Ratio(1, 2), -1)
        self.check(Ratio(2, 3), Ratio(2, 5), 1)
        self.check(Ratio(2, 3), Ratio(1, 3), 1)

    def test_a_fraction_and_an_integer(self):
        self.check(Ratio(1, 2), 1, -1)
        self.check(1, Ratio(1, 2), 1)
        self.check(Ratio(-3, 2), -1, -1)
        self.check(-1, Ratio(-3, 2), 1)
        self.check(Ratio(4, 2), 2, 0)
        self.check(2, Ratio(4, 2), 0)
        self.check(Ratio(1, 2), 0, 1)

    def test_results_are_truth_values(self):
        for found in [Ratio(1) < 2, Ratio(1) <= 2, Ratio(1) > 2, Ratio(1) >= 2, Ratio(1) == 2, Ratio(1) != 2,
                      Ratio(1) == None, Ratio(1) != None]:  # noqa: E711
            self.assertIsInstance(found, bool)

    def test_not_equal_to_other_kinds(self):
        for number in [Ratio(0), Ratio(1), Ratio(1, 2)]:
            for value in [*no_numbers(), str(number), (number.top, number.bottom), 10 ** 70]:
                self.assertFalse(number == value)
                self.assertFalse(value == number)
                self.assertTrue(number != value)
                self.assertTrue(value != number)


class ParseTest(unittest.TestCase):
    def test_each_text_of_a_fraction(self):
        for given in [(0,), (1,), (-1,), (10,), (1, 2), (-1, 2), (6, 4), (-35, 10), (10 ** 59 + 1, 7), (1, 10)]:
            ratio = Ratio(*given)
            found = Ratio.parse(str(ratio))
            self.assertIsInstance(found, Ratio)
            self.assertEqual(found, ratio)

    def test_the_argument_by_name(self):
        self.assertEqual(Ratio.parse(text="-5/3"), Ratio(-5, 3))

    def test_texts_that_no_fraction_has(self):
        for text in ["", "-0", "+1", "01", "00", "-01", "1/1", "2/4", "1/-2", "1/0", "0/0", "0/1", "0/2", "-0/2",
                     " 1", "1 ", "1\n", "\n1", "1\t", "1/2\n", "1 /2", "1/ 2", "1/02", "01/2", "1/+2", "+1/2", "--1",
                     "-", "/", "1/", "/2", "-/2", "1//2", "1/2/3", "1.0", "1_0", "1e3", "0x1", "a", "one", "1,2",
                     "-1/-2", "- 1", "4/2", "10/5", "1-", "\u0661", "\u00b2", "1/\u0662"]:
            with self.subTest(text):
                with self.assertRaises(ParseError) as caught:
                    Ratio.parse(text)
                self.assertTrue(caught.exception.value is text)

    def test_other_values(self):
        for value in [True, None, 1, Ratio(1), b"1", ["1"], ("1",), {"1": 1}, {"1"}, Thing(), 1.5, Ratio]:
            with self.assertRaises(ParseError) as caught:
                Ratio.parse(value)
            self.assertTrue(caught.exception.value is value)

    def test_parts_of_1000_digits(self):
        for text in [NINES, "-" + NINES, "1/" + NINES, "-1/" + NINES, NINES + "/2", NINES + "/1" + "0" * 999]:
            self.assertEqual(str(Ratio.parse(text)), text)

    def test_parts_of_1001_digits(self):
        long = "1" + "0" * 1000
        for text in [long, "-" + long, "1/" + long, "-1/" + long, long + "/3", "-" + long + "/3", "7" * 20000,
                     "0" + NINES]:
            with self.assertRaises(ParseError) as caught:
                Ratio.parse(text)
            self.assertTrue(caught.exception.value is text)


if __name__ == "__main__":
    unittest.main()
