"""Pumping, drying, and what a flood tells about itself."""

import random
import unittest

from cases import (Case, content, edge_profiles, flooded, fraction, fractions, no_amounts, no_columns, operations,
                   oracle_of, perform, random_amount, random_profiles)
from rainvalleys.errors import InvalidColumn, InvalidNumber, InvalidValley
from rainvalleys.floods import Flood
from rainvalleys.profiles import Profile
from rainvalleys.ratios import Ratio
from samples import Thing, no_integers

PARTS = [9, 0, 4, 1, 3, 0, 4, 2, 9]


def texts(numbers):
    return [str(number) for number in numbers]


def filled(heights, column, volume, widths=None):
    """A flood after a volume was poured on one column."""
    flood = Flood(Profile(heights, widths))
    flood.pour(column, volume)
    return flood


class PumpTest(Case):
    def check_pump(self, flood, column, volume, expected, levels):
        stored, taken = flood.stored, flood.taken
        self.check_ratio(flood.pump(column, volume), expected)
        self.assertEqual(texts(flood.levels()), levels)
        self.assertEqual([str(stored - flood.stored), str(flood.taken - taken)], [expected, expected])

    def test_until_the_volume_is_taken(self):
        self.check_pump(filled([9, 0, 9], 1, 5), 1, 2, "2", ["3"])
        self.check_pump(filled([9, 0, 9], 1, 5), 1, Ratio(7, 2), "7/2", ["3/2"])

    def test_until_the_level_is_the_height_of_the_column(self):
        self.check_pump(filled([9, 0, 9], 1, 5), 1, 9, "5", ["0"])
        self.check_pump(filled([9, 0, 2, 9], 1, 8), 2, 100, "6", ["2"])
        self.check_pump(filled([9, 0, 2, 9], 1, 8), 1, 100, "8", ["0"])

    def test_exactly_to_the_height_of_the_column(self):
        flood = filled([9, 0, 2, 9], 1, 8)
        self.check_pump(flood, 2, 6, "6", ["2"])
        self.check_pump(flood, 2, 6, "0", ["2"])
        self.check_pump(flood, 1, 2, "2", ["0"])

    def test_wide_columns(self):
        self.check_pump(filled([9, 0, 9], 1, 5, [1, 10, 1]), 1, 4, "4", ["1/10"])

    def test_a_column_that_is_not_under_water(self):
        flood = filled([0, 9, 5, 3, 0, 5, 9, 0, 8, 1], 4, 2)
        before = content(flood)
        for column in (0, 1, 2, 3, 5, 6, 7, 8, 9):
            self.check_ratio(flood.pump(column, 5), "0")
        self.check_unchanged(flood, before)

    def test_a_column_that_is_as_high_as_the_level(self):
        self.check_pump(filled([9, 0, 1, 0, 9], 1, 2), 2, 5, "0", ["1", "1"])
        self.check_pump(filled([9, 0, 2, 9], 1, 2), 2, 5, "0", ["2"])

    def test_the_volume_0(self):
        for name, profile in edge_profiles():
            flood = flooded(profile, random.Random(3))
            before = content(flood)
            for column in range(len(profile)):
                self.check_ratio(flood.pump(column, 0), "0")
                self.check_ratio(flood.pump(column, Ratio(0)), "0")
            self.check_unchanged(flood, before)

    def test_a_body_that_falls_into_two_parts(self):
        self.check_pump(filled([9, 0, 4, 1, 9], 1, 10), 1, 5, "5", ["2", "4"])
        self.check_pump(filled([9, 0, 4, 1, 9], 1, 10), 3, 100, "6", ["4", "1"])

    def test_only_to_the_inner_peak(self):
        flood = filled([9, 0, 4, 1, 9], 1, 10)
        self.check_pump(flood, 1, 3, "3", ["4", "4"])
        self.assertEqual(flood.bodies(), [(0, 1)])
        self.check_pump(flood, 1, 1, "1", ["3", "4"])
        self.assertEqual([flood.bodies(), flood.is_full(0), flood.is_full(1)], [[(0, 0), (1, 1)], False, True])

    def test_an_inner_peak_is_a_column_too(self):
        self.check_pump(filled([9, 0, 4, 1, 9], 1, 13), 2, 100, "6", ["4", "4"])
        flood = filled(PARTS, 1, 40)
        self.check_pump(flood, 4, 100, str(40 - (4 + 2 + 3 + 2)), ["4", "3", "3", "4"])
        self.assertEqual(flood.bodies(), [(0, 0), (1, 2), (3, 3)])

    def test_parts_that_fall_into_parts_again(self):
        flood = filled(PARTS, 1, 40)
        self.check_pump(flood, 3, 100, str(40 - (4 + 0 + 3 + 2)), ["4", "1", "3", "4"])
        self.assertEqual(flood.bodies(), [(0, 0), (1, 1), (2, 2), (3, 3)])
        flood = filled(PARTS, 1, 40)
        self.check_pump(flood, 1, 100, str(40 - (0 + 3 + 1 + 4 + 2)), ["0", "4", "4", "4"])
        self.assertEqual(flood.bodies(), [(0, 0), (1, 3)])

    def test_parts_that_fall_apart_at_equal_inner_peaks(self):
        heights = [9, 0, 2, 1, 2, 0, 9]
        self.check_pump(filled(heights, 1, 30), 3, 100, "26", ["2", "1", "2"])
        self.check_pump(filled(heights, 1, 30), 1, 100, "27", ["0", "2", "2"])

    def test_water_flows_back_after_pumping(self):
        flood = filled([9, 0, 4, 1, 9], 1, 10)
        flood.pump(1, 100)
        events = flood.pour(3, 4)
        self.assertEqual([(str(when), word, first, last) for when, word, first, last in events],
                         [("4", "joined", 0, 1)])

    def test_several_times_is_as_once(self):
        chance = random.Random(4)
        for profile in random_profiles(4, 60) + [profile for name, profile in edge_profiles()]:
            flood, column = flooded(profile, chance), chance.randrange(len(profile))
            other, total = flood.clone(), Ratio(0)
            parts = [random_amount(chance) for _ in range(4)]
            for part in parts:
                total = total + flood.pump(column, part)
            self.assertEqual(other.pump(column, sum(parts, Ratio(0))), total)
            self.assertEqual(other, flood)

    def test_invalid_arguments(self):
        for name, profile in edge_profiles():
            flood = flooded(profile, random.Random(5))
            before = content(flood)
            for value in no_columns(len(profile)):
                self.check_error(InvalidColumn, "value", value, flood.pump, value, 1)
                self.check_error(InvalidColumn, "value", value, flood.pump, value, -1)
            for value in no_amounts():
                for column in range(len(profile)):
                    self.check_error(InvalidNumber, "value", value, flood.pump, column, value)
            self.check_unchanged(flood, before)


class DryTest(Case):
    def test_each_level_but_not_below_the_bottom(self):
        flood = Flood(Profile([9, 0, 9, 5, 9, 1, 9], [1, 2, 1, 3, 1, 5, 1]))
        flood.pour(1, 6)
        flood.pour(3, 3)
        flood.pour(5, 10)
        self.check_ratio(flood.dry(Ratio(3, 2)), str(3 + 3 + Ratio(15, 2)))
        self.assertEqual(texts(flood.levels()), ["3/2", "5", "3/2"])
        self.check_ratio(flood.dry(100), "11/2")
        self.check_ratio(flood.dry(100), "0")
        self.check_ratio(flood.taken, "19")

    def test_a_body_falls_into_parts(self):
        flood = filled(PARTS, 1, 40)
        self.assertEqual(flood.bodies(), [(0, 3)])
        flood.dry(flood.levels()[0] - Ratio(7, 2))
        self.assertEqual([texts(flood.levels()), flood.bodies()], [["7/2"] * 4, [(0, 0), (1, 2), (3, 3)]])

    def test_a_body_that_falls_exactly_to_its_inner_peak(self):
        flood = filled([9, 0, 4, 1, 9], 1, 10)
        self.check_ratio(flood.dry(1), "3")
        self.assertEqual([texts(flood.levels()), flood.bodies()], [["4", "4"], [(0, 1)]])
        self.check_ratio(flood.dry(Ratio(1, 2)), "1")
        self.assertEqual([texts(flood.levels()), flood.bodies()], [["7/2", "7/2"], [(0, 0), (1, 1)]])

    def test_the_depth_0(self):
        for name, profile in edge_profiles():
            flood = flooded(profile, random.Random(6))
            before = content(flood)
            self.check_ratio(flood.dry(0), "0")
            self.check_ratio(flood.dry(Ratio(0)), "0")
            self.check_unchanged(flood, before)

    def test_no_valley(self):
        flood = Flood(Profile([1, 2, 3]))
        self.check_ratio(flood.dry(5), "0")
        self.check_ratio(flood.taken, "0")

    def test_invalid_depths(self):
        for name, profile in edge_profiles():
            flood = flooded(profile, random.Random(7))
            before = content(flood)
            for value in no_amounts():
                self.check_error(InvalidNumber, "value", value, flood.dry, value)
            self.check_unchanged(flood, before)


class SecondFloodTest(Case):
    """Everything that may happen to a flood, as a second program finds it that moves levels instead of volumes."""

    def test_all_operations_in_any_order(self):
        chance = random.Random(8)
        for profile in random_profiles(8, 250, columns=12) + [profile for name, profile in edge_profiles()] * 3:
            flood, oracle = Flood(profile), oracle_of(profile)
            for word, arguments in operations(chance, profile, 6):
                found = perform(flood, (word, arguments))
                numbers = [fraction(part) if part.__class__ is Ratio else part for part in arguments]
                expected = getattr(oracle, word)(*numbers)
                if word in ("pump", "dry"):
                    self.assertEqual(fraction(found), expected)
                self.assertEqual(fractions(flood.levels()), oracle.levels)
                self.assertEqual(fractions([flood.stored, flood.left, flood.right, flood.taken]),
                                 [oracle.stored(), *oracle.out, oracle.taken])
                self.assertEqual(fractions([flood.depth(column) for column in range(len(profile))]),
                                 [oracle.depth(column) for column in range(len(profile))])


class QueriesTest(Case):
    def test_a_dry_flood(self):
        for name, profile in edge_profiles():
            flood, oracle = Flood(profile), oracle_of(profile)
            self.assertEqual(texts(flood.levels()), texts(oracle.bottoms))
            self.assertEqual(flood.bodies(), [(valley, valley) for valley in range(len(oracle.bottoms))])
            for number in (flood.stored, flood.left, flood.right, flood.taken):
                self.check_ratio(number, "0")
            for column, height in enumerate(profile.heights):
                self.check_ratio(flood.surface(column), str(height))
                self.check_ratio(flood.depth(column), "0")
                self.assertIs(column in flood, False)

    def test_surfaces_and_depths(self):
        flood = filled([0, 9, 0, 4, 1, 9, 3], 2, 10)
        self.assertEqual(texts([flood.surface(column) for column in range(7)]), ["0", "9", "5", "5", "5", "9", "3"])
        self.assertEqual(texts([flood.depth(column) for column in range(7)]), ["0", "0", "5", "1", "4", "0", "0"])
        self.assertEqual([column in flood for column in range(7)], [False, False, True, True, True, False, False])

    def test_a_column_above_the_level_of_its_body(self):
        flood = filled([9, 0, 4, 9], 1, 3)
        self.check_ratio(flood.surface(2), "4")
        self.check_ratio(flood.depth(2), "0")
        self.assertIs(2 in flood, False)

    def test_kinds_of_values(self):
        flood = filled([9, 0, 4, 1, 9], 1, 10)
        self.assertEqual([flood.levels().__class__, flood.bodies().__class__], [list, list])
        self.assertEqual([number.__class__ for number in flood.levels()], [Ratio, Ratio])
        for body in flood.bodies():
            self.assertEqual([body.__class__, body[0].__class__, body[1].__class__], [tuple, int, int])
        for number in (flood.stored, flood.left, flood.right, flood.taken, flood.surface(0), flood.depth(0)):
            self.assertIs(number.__class__, Ratio)
        self.assertIs(flood.is_full(0), False)
        self.assertIs(flood.profile.__class__, Profile)

    def test_bodies_and_full_bodies(self):
        flood = filled(PARTS, 3, 6)
        self.assertEqual(flood.bodies(), [(0, 0), (1, 2), (3, 3)])
        self.assertEqual(texts(flood.levels()), ["0", "10/3", "10/3", "2"])
        flood.pour(3, 2)
        self.assertEqual([flood.is_full(valley) for valley in range(4)], [False, True, True, False])
        flood.rain(100)
        self.assertEqual([flood.bodies(), texts(flood.levels())], [[(0, 3)], ["9"] * 4])
        self.assertEqual([flood.is_full(valley) for valley in range(4)], [True] * 4)

    def test_the_profile(self):
        profile = Profile([3, 0, 4], [1, 2, 3])
        flood = Flood(profile)
        self.assertEqual(flood.profile, profile)
        flood.rain(5)
        self.assertEqual(repr(flood.profile), "Profile([3, 0, 4], [1, 2, 3])")

    def test_the_volumes_and_the_profile_are_properties(self):
        flood = Flood(Profile([3, 0, 4]))
        for name in ("stored", "left", "right", "taken", "profile"):
            self.assertIsInstance(Flood.__dict__[name], property)
            with self.assertRaises(AttributeError):
                setattr(flood, name, Ratio(1))

    def test_any_value_may_be_asked_for_with_in(self):
        for name, profile in edge_profiles():
            flood = Flood(profile)
            flood.rain(1000)
            wet = [column for column in range(len(profile)) if flood.depth(column) > 0]
            for value in no_columns(len(profile)) + [10 ** 70, float("nan"), {1}, Thing, flood, profile]:
                self.assertIs(value in flood, False)
            self.assertEqual([column for column in range(-3, len(profile) + 3) if column in flood], wet)

    def test_invalid_columns_and_valleys(self):
        for name, profile in edge_profiles():
            flood = flooded(profile, random.Random(9))
            before = content(flood)
            for value in no_columns(len(profile)):
                self.check_error(InvalidColumn, "value", value, flood.surface, value)
                self.check_error(InvalidColumn, "value", value, flood.depth, value)
            for value in [*no_integers(), -1, len(flood.levels()), 10 ** 30]:
                self.check_error(InvalidValley, "value", value, flood.is_full, value)
            self.check_unchanged(flood, before)

    def test_arguments_by_name(self):
        flood = Flood(profile=Profile([9, 0, 9]))
        flood.rain(amount=Ratio(9, 2))
        self.assertIs(flood.is_full(valley=0), True)
        self.check_ratio(flood.surface(column=1), "9")
        self.check_ratio(flood.depth(column=1), "9")
        self.check_ratio(flood.pump(volume=2, column=1), "2")
        self.check_ratio(flood.dry(depth=3), "3")


class CopiesTest(Case):
    def test_changing_returned_lists_changes_nothing(self):
        for name, profile in edge_profiles():
            flood = flooded(profile, random.Random(10))
            before = content(flood)
            flood.levels().append(1)
            flood.bodies().append(1)
            flood.levels()[:] = [0] * len(flood.levels())
            flood.bodies().clear()
            self.check_unchanged(flood, before)

    def test_questions_change_nothing(self):
        for profile in random_profiles(11, 30):
            flood = flooded(profile, random.Random(11))
            before = content(flood)
            self.check_unchanged(flood, before)
            self.assertEqual([value in flood for value in range(-1, 12)], [value in flood for value in range(-1, 12)])
            self.check_unchanged(flood, before)

    def test_given_numbers_stay_as_they_were(self):
        profile, number = Profile([9, 0, 4, 1, 9]), Ratio(7, 2)
        flood = Flood(profile)
        flood.pour(1, number)
        flood.pump(1, number)
        flood.dry(number)
        self.assertEqual(repr([profile, number]), "[Profile([9, 0, 4, 1, 9], [1, 1, 1, 1, 1]), Ratio(7, 2)]")

    def test_floods_of_one_profile_are_independent(self):
        profile = Profile([9, 0, 4, 1, 9])
        one, other = Flood(profile), Flood(profile)
        one.rain(1)
        self.assertEqual(content(other), content(Flood(profile)))

    def test_a_clone_is_independent(self):
        chance = random.Random(12)
        for profile in random_profiles(12, 40) + [profile for name, profile in edge_profiles()]:
            flood = flooded(profile, chance)
            before, twin = content(flood), flood.clone()
            self.assertIs(twin.__class__, Flood)
            self.assertIsNot(twin, flood)
            self.assertEqual([content(twin), twin], [before, flood])
            later = operations(chance, profile, 3)
            for operation in later:
                perform(twin, operation)
            self.check_unchanged(flood, before)
            after = content(twin)
            for operation in later:
                perform(flood, operation)
            self.assertEqual([content(flood), flood], [after, twin])
            flood.rain(1000)
            self.check_unchanged(twin, after)


class EqualityTest(Case):
    def check_differ(self, one, other):
        self.assertFalse(one == other)
        self.assertTrue(one != other)

    def test_equal_floods(self):
        one, other = Flood(Profile([9, 0, 9])), Flood(Profile((9, 0, 9), (1, 1, 1)))
        self.assertTrue(one == other)
        self.assertFalse(one != other)
        one.rain(2)
        self.check_differ(one, other)
        other.rain(1)
        other.rain(Ratio(1))
        self.assertTrue(one == other)

    def test_different_profiles(self):
        self.check_differ(Flood(Profile([9, 0, 9])), Flood(Profile([9, 0, 8])))
        self.check_differ(Flood(Profile([9, 0, 9])), Flood(Profile([9, 0, 9], [2, 1, 1])))
        self.check_differ(Flood(Profile([1])), Flood(Profile([2])))

    def test_different_volumes(self):
        def flood(*poured):
            found = Flood(Profile([0, 9, 0, 9, 0]))
            for column in poured:
                found.pour(column, 1)
            return found
        self.check_differ(flood(0), flood(4))
        self.check_differ(flood(0), flood())
        self.check_differ(flood(4), flood())
        self.check_differ(flood(2), flood())
        pumped = flood(2)
        pumped.pump(2, 1)
        self.check_differ(pumped, flood())
        dried = flood(2)
        dried.dry(1)
        self.assertTrue(pumped == dried)

    def test_different_levels_with_equal_volumes(self):
        one, other = Flood(Profile([9, 0, 9, 0, 9])), Flood(Profile([9, 0, 9, 0, 9]))
        one.pour(1, 1)
        other.pour(3, 1)
        self.check_differ(one, other)

    def test_values_of_other_kinds(self):
        flood = Flood(Profile([9, 0, 9]))
        for value in [None, True, 0, "", [], (), {}, Thing(), Flood, Profile([9, 0, 9]), Ratio(0), [Ratio(0)]]:
            self.check_differ(flood, value)
            self.check_differ(value, flood)

    def test_each_method_is_defined_in_the_class(self):
        for name in ("rain pour pump dry levels bodies is_full surface depth stored left right taken profile clone"
                     " __contains__ __eq__ __init__").split():
            self.assertIn(name, Flood.__dict__)


if __name__ == "__main__":
    unittest.main()
