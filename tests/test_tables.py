import random
import unittest

from cases import Case, content, edge_profiles, flooded, no_columns, random_profiles
from rainvalleys.errors import InvalidColumn
from rainvalleys.floods import Flood
from rainvalleys.profiles import Profile
from rainvalleys.ratios import Ratio
from rainvalleys.tables import Gauge, table
from samples import HUGE, Thing, no_integers


def floods(seed, many):
    chance = random.Random(seed)
    for profile in [profile for name, profile in edge_profiles()] + random_profiles(seed, many):
        yield flooded(profile, chance, 3)


def padded(text, wide):
    """The text, right-aligned; a longer one is not cut."""
    return " " * (wide - len(text)) + text


class GaugeTest(Case):
    def test_example_of_the_document(self):
        flood = Flood(Profile([3, 0, 3]))
        flood.rain(1)
        self.check_ratio(Gauge(1)(flood), "2")

    def test_the_depth_of_the_column(self):
        for flood in floods(1, 40):
            before = content(flood)
            for column in range(len(flood.profile)):
                found = Gauge(column)(flood)
                self.check_ratio(found, str(flood.depth(column)))
            self.check_unchanged(flood, before)

    def test_one_gauge_for_several_floods(self):
        gauge = Gauge(1)
        for heights, expected in [([9, 0, 9], "2"), ([9, 5, 9, 0, 9], "2"), ([1, 2], "0")]:
            flood = Flood(Profile(heights))
            flood.rain(1)
            self.check_ratio(gauge(flood), expected)

    def test_a_column_that_the_profile_does_not_have(self):
        for many in (1, 3, 59):
            flood = Flood(Profile([0] * many))
            for column in (many, 59):
                self.check_error(InvalidColumn, "value", column, Gauge(column), flood)
            self.check_ratio(Gauge(many - 1)(flood), "0")

    def test_invalid_columns(self):
        for value in [*no_columns(60), *no_integers()]:
            self.check_error(InvalidColumn, "value", value, Gauge, value)

    def test_the_last_column(self):
        flood = Flood(Profile([9] + [0] * 57 + [1, 9]))
        flood.rain(1)
        self.assertEqual([Gauge(59).column, Gauge(0).column], [59, 0])
        self.check_ratio(Gauge(59)(flood), "0")
        self.assertEqual(Gauge(58)(flood), flood.depth(58))

    def test_the_column_is_a_property(self):
        gauge = Gauge(7)
        self.assertIs(gauge.column.__class__, int)
        self.assertIsInstance(Gauge.__dict__["column"], property)
        with self.assertRaises(AttributeError):
            gauge.column = 8
        self.assertEqual(gauge, Gauge(7))

    def test_equality(self):
        for column in range(60):
            for other in range(60):
                self.assertIs(Gauge(column) == Gauge(other), column == other)
                self.assertIs(Gauge(column) != Gauge(other), column != other)

    def test_values_of_other_kinds(self):
        for value in [None, 1, True, "1", Ratio(1), (1,), [1], Thing(), Gauge, Profile([1]), Flood(Profile([1]))]:
            self.assertFalse(Gauge(1) == value)
            self.assertTrue(Gauge(1) != value)
            self.assertFalse(value == Gauge(1))

    def test_by_name(self):
        flood = Flood(Profile([9, 0, 9]))
        flood.rain(1)
        self.check_ratio(Gauge(column=1)(flood=flood), "2")

    def test_its_methods_stand_in_the_class(self):
        for name in ("__init__", "__call__", "__eq__", "column"):
            self.assertIn(name, Gauge.__dict__)


class TableTest(Case):
    def test_example_of_the_document(self):
        flood = Flood(Profile([3, 0, 3]))
        flood.rain(1)
        self.assertEqual(table(flood).split("\n")[1], "  1       0           2wet  ")

    def test_the_whole_text(self):
        flood = Flood(Profile([3, 0, 1, -12, 4, 5]))
        flood.pour(1, Ratio(1, 3))
        self.assertEqual(table(flood), "\n".join([
            "  0       3           0dry  ",
            "  1       0         1/3wet  ",
            "  2       1           0dry  ",
            "  3     -12           0dry  ",
            "  4       4           0dry  ",
            "  5       5           0dry  "]))

    def test_one_column(self):
        self.assertEqual(table(Flood(Profile([7]))), "  0       7           0dry  ")

    def test_two_digits(self):
        lines = table(Flood(Profile(list(range(60))))).split("\n")
        self.assertEqual(lines[9:11], ["  9       9           0dry  ", " 10      10           0dry  "])
        self.assertEqual(lines[59], " 59      59           0dry  ")

    def test_longer_parts_are_not_cut(self):
        flood = Flood(Profile([-12345678, -123456789, 1234567, 12345678, HUGE, -HUGE, HUGE]))
        flood.pour(5, Ratio(10 ** 20 + 1, 3))
        flood.pour(1, 1)
        lines = table(flood).split("\n")
        self.assertEqual(lines[0], "  0-12345678           0dry  ")
        self.assertEqual(lines[1], "  1-123456789           1wet  ")
        self.assertEqual(lines[2], "  2 1234567           0dry  ")
        self.assertEqual(lines[3], "  312345678           0dry  ")
        self.assertEqual(lines[4], f"  4{HUGE}           0dry  ")
        self.assertEqual(lines[5], f"  5-{HUGE}{10 ** 20 + 1}/3wet  ")

    def test_depths_of_eleven_to_thirteen_characters(self):
        for top, expected in [(12345678, "  1       0  12345678/7wet  "), (123456789, "  1       0 123456789/7wet  "),
                              (1234567890, "  1       01234567890/7wet  "),
                              (12345678901, "  1       012345678901/7wet  ")]:
            flood = Flood(Profile([HUGE, 0, HUGE]))
            flood.pour(1, Ratio(top, 7))
            self.assertEqual(table(flood).split("\n")[1], expected)

    def test_each_line(self):
        for flood in floods(2, 60):
            lines = table(flood).split("\n")
            self.assertEqual(len(lines), len(flood.profile))
            for column, line in enumerate(lines):
                word = "wet  " if column in flood else "dry  "
                self.assertEqual(line, padded(str(column), 3) + padded(str(flood.profile.heights[column]), 8)
                                 + padded(str(flood.depth(column)), 12) + word)

    def test_the_flood_stays_as_it_was(self):
        for flood in floods(3, 10):
            before = content(flood)
            self.assertEqual(table(flood), table(flood))
            self.check_unchanged(flood, before)

    def test_by_name(self):
        self.assertEqual(table(flood=Flood(Profile([7]))), "  0       7           0dry  ")


if __name__ == "__main__":
    unittest.main()
