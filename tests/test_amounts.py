import itertools
import random
import unittest

from cases import (Case, content, edge_profiles, exact, fraction, fractions, no_amounts, no_columns, oracle_of,
                   random_profiles, shown)
from rainvalleys.amounts import (amount_to_exceed, amount_to_reach, amount_to_store, end_amount, end_surfaces,
                                 end_volume, events, fitting_amounts, flood_after)
from rainvalleys.errors import InvalidColumn, InvalidNumber, InvalidObservations
from rainvalleys.floods import Flood
from rainvalleys.profiles import Profile
from rainvalleys.ratios import Ratio
from samples import Thing, no_integers, no_numbers

LONG = Profile([1, 4, 0, 2, 2, 1, 5, 3])
TWO = Profile([3, 0, 1, 0, 3])
A_BIT = Ratio(1, 10 ** 20)


def profiles(seed, many):
    return [profile for name, profile in edge_profiles()] + random_profiles(seed, many)


def depths_of(profile):
    """For each column the depths 0, some that it has at events and between them, and one that it never has."""
    moments = [Ratio(0)] + [when for when, *event in events(profile)]
    between = [(one + other) * Ratio(1, 2) for one, other in zip(moments, moments[1:])]
    floods = [flood_after(profile, amount) for amount in moments + between]
    for column in range(len(profile)):
        deepest = floods[len(moments) - 1].depth(column)
        yield column, deepest, [*{str(depth): depth for depth in [flood.depth(column) for flood in floods]}.values()]


class EventsTest(Case):
    def test_example_of_the_document(self):
        self.assertEqual(shown(events(LONG)), [("2/5", "full", 1, 1), ("3/5", "joined", 0, 1), ("11/5", "full", 0, 1)])

    def test_it_yields(self):
        found = events(LONG)
        self.assertIs(iter(found), found)
        when, word, first, last = next(found)
        self.assertEqual([part.__class__ for part in (when, word, first, last)], [Ratio, str, int, int])
        self.assertEqual([len(list(found)), len(list(found))], [2, 0])

    def test_all_events_of_a_second_program(self):
        for profile in profiles(1, 80):
            self.assertEqual(exact(events(profile)), oracle_of(profile).rain(10 ** 6))

    def test_no_valley(self):
        for heights in ([1], [1, 2, 2], [3, 1], [2, 2]):
            self.assertEqual(list(events(Profile(heights))), [])

    def test_two_of_them_at_once(self):
        one, other = events(LONG), events(LONG)
        self.assertEqual(list(zip(one, other)), [(event, event) for event in events(LONG)])

    def test_by_name(self):
        self.assertEqual(list(events(profile=LONG)), list(events(LONG)))


class FloodAfterTest(Case):
    def test_it_is_the_flood_after_rain(self):
        for profile in profiles(2, 30):
            for amount in (0, Ratio(0), 1, Ratio(2, 3), 50):
                flood = Flood(profile)
                flood.rain(amount)
                found = flood_after(profile, amount)
                self.assertIs(found.__class__, Flood)
                self.assertEqual([content(found), found], [content(flood), flood])

    def test_each_is_a_new_one(self):
        one, other = flood_after(LONG, 1), flood_after(LONG, 1)
        one.rain(1)
        self.assertEqual(content(other), content(flood_after(amount=1, profile=LONG)))

    def test_invalid_amounts(self):
        for value in no_amounts():
            self.check_error(InvalidNumber, "value", value, flood_after, LONG, value)


class EndTest(Case):
    def test_example_of_the_document(self):
        self.assertEqual(end_surfaces(LONG), [1, 4, 4, 4, 4, 4, 5, 3])
        self.check_ratio(end_volume(LONG), "11")
        self.check_ratio(end_amount(LONG), "11/5")

    def test_the_flood_in_the_end(self):
        for profile in profiles(3, 80):
            amount, surfaces, volume = end_amount(profile), end_surfaces(profile), end_volume(profile)
            for later in (amount, amount + 1, amount + 10 ** 6):
                flood = flood_after(profile, later)
                self.assertEqual([flood.surface(column) for column in range(len(profile))], surfaces)
                self.assertEqual(flood.stored, volume)
            if amount != 0:
                self.assertLess(flood_after(profile, amount - A_BIT).stored, volume)

    def test_kinds_of_values(self):
        for profile in profiles(4, 10):
            self.assertEqual([surface.__class__ for surface in end_surfaces(profile)], [int] * len(profile))
            self.assertEqual([end_volume(profile).__class__, end_amount(profile).__class__], [Ratio, Ratio])

    def test_no_valley(self):
        for heights in ([1], [1, 2, 2], [3, 1], [2, 2]):
            profile = Profile(heights)
            self.assertEqual(end_surfaces(profile), heights)
            self.check_ratio(end_volume(profile), "0")
            self.check_ratio(end_amount(profile), "0")

    def test_widths(self):
        profile = Profile([3, 0, 1, 0, 3], [10, 1, 4, 100, 1])
        self.assertEqual(end_surfaces(profile), [3] * 5)
        self.check_ratio(end_volume(profile), str(3 + 8 + 300))

    def test_changing_the_list_changes_nothing(self):
        end_surfaces(LONG).clear()
        self.assertEqual(end_surfaces(LONG), [1, 4, 4, 4, 4, 4, 5, 3])

    def test_by_name(self):
        self.assertEqual([end_surfaces(profile=TWO), end_volume(profile=TWO), end_amount(profile=TWO)], [[3] * 5, 8, 2])


class AmountsTest(Case):
    def test_examples_of_the_document(self):
        self.check_ratio(amount_to_reach(TWO, 2, 1), "5/4")
        self.check_ratio(amount_to_exceed(TWO, 2, 0), "1/2")
        self.assertIs(amount_to_exceed(TWO, 1, 3), None)
        self.assertIs(amount_to_reach(TWO, 0, 1), None)
        self.check_ratio(amount_to_store(TWO, 5), "5/4")

    def test_by_name(self):
        self.check_ratio(amount_to_reach(depth=1, column=2, profile=TWO), "5/4")
        self.check_ratio(amount_to_exceed(depth=0, column=2, profile=TWO), "1/2")
        self.check_ratio(amount_to_store(volume=5, profile=TWO), "5/4")

    def test_the_depth_0(self):
        for profile in profiles(5, 40):
            surfaces = end_surfaces(profile)
            for column in range(len(profile)):
                for nothing in (0, Ratio(0)):
                    self.check_ratio(amount_to_reach(profile, column, nothing), "0")
                    found = amount_to_exceed(profile, column, nothing)
                    if surfaces[column] == profile.heights[column]:
                        self.assertIs(found, None)
                    else:
                        self.assertNotIn(column, flood_after(profile, found))
                        self.assertIn(column, flood_after(profile, found + A_BIT))

    def test_a_column_that_gets_under_water_at_once(self):
        self.check_ratio(amount_to_exceed(TWO, 1, 0), "0")
        self.check_ratio(amount_to_exceed(Profile([9, 0, 2, 9]), 2, 0), "2/3")

    def test_a_level_that_waits_for_its_neighbour(self):
        profile = Profile([9, 1, 2, 0, 9])
        self.assertEqual(shown(events(profile))[:2], [("1/2", "full", 0, 0), ("3/4", "joined", 0, 1)])
        self.check_ratio(amount_to_reach(profile, 1, 1), "1/2")
        self.check_ratio(amount_to_exceed(profile, 1, 1), "3/4")

    def test_the_depth_in_the_end(self):
        for profile in profiles(6, 40):
            for column, deepest, depths in depths_of(profile):
                self.assertIs(amount_to_exceed(profile, column, deepest), None)
                self.assertIs(amount_to_exceed(profile, column, deepest + 1), None)
                self.assertIs(amount_to_reach(profile, column, deepest + A_BIT), None)
                self.assertEqual(flood_after(profile, amount_to_reach(profile, column, deepest)).depth(column), deepest)

    def test_the_least_amount_to_reach(self):
        for profile in profiles(7, 25):
            for column, deepest, depths in depths_of(profile):
                for depth in depths:
                    found = amount_to_reach(profile, column, depth)
                    self.assertIs(found.__class__, Ratio)
                    self.assertEqual(flood_after(profile, found).depth(column), depth)
                    if found > A_BIT:
                        self.assertLess(flood_after(profile, found - A_BIT).depth(column), depth)

    def test_the_greatest_amount_that_does_not_exceed(self):
        for profile in profiles(8, 25):
            for column, deepest, depths in depths_of(profile):
                for depth in depths:
                    found = amount_to_exceed(profile, column, depth)
                    self.assertEqual(found is None, depth == deepest)
                    if found is not None:
                        self.assertIs(found.__class__, Ratio)
                        self.assertEqual(flood_after(profile, found).depth(column), depth)
                        self.assertGreater(flood_after(profile, found + A_BIT).depth(column), depth)

    def test_the_least_amount_to_store(self):
        for profile in profiles(9, 40):
            most = end_volume(profile)
            for part in (Ratio(1, 7), Ratio(1, 2), Ratio(9, 10), 1):
                if most != 0:
                    found = amount_to_store(profile, most * part)
                    self.assertEqual(flood_after(profile, found).stored, most * part)
                    self.assertLess(flood_after(profile, found - A_BIT).stored, most * part)
            self.assertIs(amount_to_store(profile, most + A_BIT), None)
            self.assertIs(amount_to_store(profile, most + 10 ** 30), None)
            self.assertEqual(amount_to_store(profile, most), end_amount(profile))

    def test_the_volumes_at_events(self):
        for profile in profiles(10, 40):
            for when, *event in events(profile):
                self.assertEqual(amount_to_store(profile, flood_after(profile, when).stored), when)

    def test_the_volume_0(self):
        for profile in profiles(11, 10):
            self.check_ratio(amount_to_store(profile, 0), "0")
            self.check_ratio(amount_to_store(profile, Ratio(0)), "0")

    def test_invalid_arguments(self):
        for function in (amount_to_reach, amount_to_exceed):
            for value in no_columns(5):
                self.check_error(InvalidColumn, "value", value, function, TWO, value, 1)
                self.check_error(InvalidColumn, "value", value, function, TWO, value, -1)
            for value in no_amounts():
                self.check_error(InvalidNumber, "value", value, function, TWO, 1, value)
            self.check_error(InvalidColumn, "value", 5, function, TWO, 5, None)
        for value in no_amounts():
            self.check_error(InvalidNumber, "value", value, amount_to_store, TWO, value)

    def test_arguments_stay_as_they_were(self):
        number = Ratio(1, 2)
        amount_to_reach(TWO, 1, number)
        amount_to_exceed(TWO, 1, number)
        amount_to_store(TWO, number)
        flood_after(TWO, number)
        self.assertEqual(repr([TWO, number]), "[Profile([3, 0, 1, 0, 3], [1, 1, 1, 1, 1]), Ratio(1, 2)]")


class ObservationsTest(Case):
    def check_found(self, found, least, greatest):
        self.assertIs(found.__class__, tuple)
        self.assertEqual(len(found), 2)
        self.check_ratio(found[0], least)
        if greatest is None:
            self.assertIs(found[1], None)
        else:
            self.check_ratio(found[1], greatest)

    def test_examples_of_the_document(self):
        self.check_found(fitting_amounts(TWO, [(1, 2), (2, 1)]), "5/4", "5/4")
        self.check_found(fitting_amounts(TWO, [(1, 3)]), "2", None)
        self.assertIs(fitting_amounts(TWO, [(0, 0)])[1], None)
        self.assertIs(fitting_amounts(TWO, [(1, 1), (2, 1)]), None)

    def test_no_observations(self):
        for profile in profiles(12, 10):
            self.check_found(fitting_amounts(profile, []), "0", None)

    def test_by_name(self):
        self.check_found(fitting_amounts(observations=[(1, 3)], profile=TWO), "2", None)

    def test_a_range_of_amounts(self):
        self.check_found(fitting_amounts(TWO, [(2, 0)]), "0", "1/2")
        self.check_found(fitting_amounts(Profile([9, 1, 2, 0, 9]), [(1, 1)]), "1/2", "3/4")

    def test_several_observations_of_one_column(self):
        self.check_found(fitting_amounts(TWO, [(2, 1), (2, 1), (2, Ratio(1))]), "5/4", "5/4")
        self.assertIs(fitting_amounts(TWO, [(2, 1), (2, Ratio(1, 2))]), None)
        self.assertIs(fitting_amounts(TWO, [(2, 0), (2, 3)]), None)

    def test_a_depth_that_is_never_reached(self):
        self.assertIs(fitting_amounts(TWO, [(1, 4)]), None)
        self.assertIs(fitting_amounts(TWO, [(0, 1)]), None)
        self.assertIs(fitting_amounts(TWO, [(1, 1), (0, A_BIT)]), None)

    def test_ranges_that_meet_at_one_amount(self):
        self.check_found(fitting_amounts(TWO, [(2, 0), (1, 1)]), "1/2", "1/2")

    def test_the_depths_of_a_flood(self):
        for profile in profiles(13, 40):
            for amount in (0, Ratio(1, 3), 1, Ratio(17, 5), 100):
                flood = flood_after(profile, amount)
                seen = [(column, flood.depth(column)) for column in range(len(profile))]
                least, greatest = fitting_amounts(profile, seen)
                self.assertLessEqual(least, amount)
                self.assertTrue(greatest is None or greatest >= amount)
                self.assertEqual(fitting_amounts(profile, seen[::-1]), (least, greatest))

    def test_exactly_the_amounts_of_the_range(self):
        for profile in profiles(14, 40):
            moments = [Ratio(0)] + [when for when, *event in events(profile)]
            moments += [(one + other) * Ratio(1, 3) for one, other in zip(moments, moments[1:])]
            floods = [(amount, flood_after(profile, amount)) for amount in moments]
            for amount, flood in floods:
                seen = [(column, flood.depth(column)) for column in range(len(profile)) if column % 3 == 1]
                least, greatest = fitting_amounts(profile, seen)
                for other, state in floods:
                    fits = all(state.depth(column) == depth for column, depth in seen)
                    self.assertEqual(fits, least <= other and (greatest is None or other <= greatest))

    def test_values_that_are_no_list(self):
        for value in [*no_integers(), 0, 1, ((1, 1),), {1: 1}, {(1, 1)}, TWO, Thing()]:
            if value.__class__ is not list:
                self.check_error(InvalidObservations, "index", None, fitting_amounts, TWO, value)

    def test_the_first_invalid_observation(self):
        wrong = [*no_numbers(), 0, Ratio(1), [1, 1], (1,), (1, 1, 1), (None, 1), (1, None), (5, 1), (-1, 1), (1, -1),
                 (1, Ratio(-1, 2)), (True, 1), (1, False), ("1", 1), (1, "1"), (Ratio(1), 1), (1, (1,)), ([1], 1),
                 (Thing(), 1), (1, Thing()), {1: 1, 2: 2}, "ab"]
        for value in wrong:
            for before, after in itertools.product(([], [(1, 1)], [(2, 0)] * 4), ([], [None], [(1, 1)])):
                self.check_error(InvalidObservations, "index", len(before), fitting_amounts, TWO,
                                 [*before, value, *after])

    def test_all_observations_are_checked_before_any_is_used(self):
        self.check_error(InvalidObservations, "index", 1, fitting_amounts, TWO, [(1, 100), (5, 1)])
        self.check_error(InvalidObservations, "index", 2, fitting_amounts, TWO, [(1, 1), (2, 1), (1, -1)])

    def test_given_lists_stay_as_they_were(self):
        seen = [(1, 2), (2, Ratio(1))]
        fitting_amounts(TWO, seen)
        self.assertEqual(repr(seen), "[(1, 2), (2, Ratio(1, 1))]")

    def test_many_observations(self):
        flood = flood_after(LONG, 1)
        seen = [(column % 8, flood.depth(column % 8)) for column in range(2000)]
        self.assertEqual(fractions(fitting_amounts(LONG, seen)), [1, 1])
        self.assertEqual(fraction(end_amount(LONG)), fraction(fitting_amounts(LONG, [(2, 4)] * 2000)[0]))


class SecondFloodTest(Case):
    def test_depths_after_amounts(self):
        chance = random.Random(15)
        for profile in profiles(15, 40):
            amount = Ratio(chance.randint(1, 30), 7)
            oracle = oracle_of(profile)
            oracle.rain(fraction(amount))
            flood = flood_after(profile, amount)
            for column in range(len(profile)):
                depth = flood.depth(column)
                self.assertEqual(fraction(depth), oracle.depth(column))
                self.assertLessEqual(amount_to_reach(profile, column, depth), amount)
                last = amount_to_exceed(profile, column, depth)
                self.assertTrue(last is None or last >= amount)


if __name__ == "__main__":
    unittest.main()
