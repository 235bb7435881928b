"""Rain and pouring: where the water goes, and the events."""

import itertools
import random
import unittest
from fractions import Fraction

from cases import (Case, content, edge_profiles, exact, flooded, fraction, fractions, no_amounts, no_columns,
                   oracle_of, random_amount, random_profiles, random_weights, shown)
from rainvalleys.errors import InvalidColumn, InvalidNumber, InvalidWeights
from rainvalleys.floods import Flood
from rainvalleys.profiles import Profile
from rainvalleys.ratios import Ratio
from samples import HUGE, Thing, no_integers, no_rows


def volumes(flood):
    return [str(volume) for volume in (flood.stored, flood.left, flood.right, flood.taken)]


def texts(levels):
    return [str(level) for level in levels]


class WhereTheWaterGoesTest(Case):
    def check_pour(self, heights, column, expected, before=(), widths=None):
        """Pour 1 on a column after pouring other volumes, and compare what is stored, left and right since then."""
        flood = Flood(Profile(heights, widths))
        for earlier, volume in before:
            flood.pour(earlier, volume)
        old = [flood.stored, flood.left, flood.right]
        flood.pour(column, 1)
        new = [flood.stored, flood.left, flood.right]
        self.assertEqual([str(one - other) for one, other in zip(new, old)], expected)

    def test_on_a_body(self):
        for column in (1, 2, 3, 4):
            self.check_pour([9, 5, 3, 0, 5, 9], column, ["1", "0", "0"])

    def test_on_the_first_and_the_last_peak(self):
        self.check_pour([9, 0, 8], 0, ["1/2", "1/2", "0"])
        self.check_pour([9, 0, 8], 2, ["1/2", "0", "1/2"])
        for column in (1, 2):
            self.check_pour([0, 9, 9, 0, 8, 0], column, ["1/2", "1/2", "0"])

    def test_on_a_peak_between_two_bodies(self):
        flood = Flood(Profile([9, 0, 5, 5, 1, 9]))
        flood.pour(2, 1)
        self.assertEqual(texts(flood.levels()), ["1/2", "3/2"])
        flood.pour(3, 1)
        self.assertEqual(texts(flood.levels()), ["1", "2"])

    def test_on_a_peak_inside_a_body(self):
        self.check_pour([9, 0, 1, 0, 9], 2, ["1", "0", "0"], before=[(1, 2)])
        flood = Flood(Profile([9, 0, 1, 0, 9]))
        flood.pour(1, 2)
        self.assertEqual(flood.bodies(), [(0, 1)])
        flood.pour(2, 3)
        self.assertEqual(texts(flood.levels()), ["2", "2"])

    def test_outside_the_peaks(self):
        for column in (0, 1):
            self.check_pour([0, 1, 2, 0, 2, 1, 0], column, ["0", "1", "0"])
        for column in (5, 6):
            self.check_pour([0, 1, 2, 0, 2, 1, 0], column, ["0", "0", "1"])

    def test_one_peak_alone_gives_one_half_to_each_end(self):
        for heights in ([3], [3, 3], [1, 3, 3, 0], [1, 2, 3]):
            self.check_pour(heights, heights.index(3), ["0", "1/2", "1/2"])

    def test_a_full_body_spills_over_its_lower_rim(self):
        self.check_pour([1, 0, 3], 1, ["0", "1", "0"], before=[(1, 1)])
        self.check_pour([3, 0, 1], 1, ["0", "0", "1"], before=[(1, 1)])

    def test_a_full_body_with_equal_rims_spills_to_both_sides(self):
        self.check_pour([2, 0, 2], 1, ["0", "1/2", "1/2"], before=[(1, 2)])
        flood = Flood(Profile([9, 0, 2, 1, 2, 0, 9]))
        flood.pour(3, 3)
        self.assertEqual(texts(flood.levels()), ["1", "2", "1"])

    def test_full_bodies_pass_water_on_one_after_the_other(self):
        heights = [9, 5, 8, 5, 7, 5, 6, 5]
        self.check_pour(heights, 1, ["0", "0", "1"], before=[(1, 3), (3, 2), (5, 1)])
        self.check_pour(heights[::-1], 6, ["0", "1", "0"], before=[(6, 3), (4, 2), (2, 1)])

    def test_half_of_a_half(self):
        """The peak gives one half to a full body, which gives one half of it to each of its sides."""
        flood = Flood(Profile([2, 0, 2, 0, 9]))
        flood.pour(1, 2)
        flood.pour(2, 1)
        self.assertEqual(volumes(flood), ["11/4", "1/4", "0", "0"])
        self.assertEqual(texts(flood.levels()), ["2", "3/4"])

    def test_a_lower_neighbour_gets_what_is_passed_on(self):
        flood = Flood(Profile([9, 0, 3, 0, 5, 0, 9]))
        flood.pour(1, 4)
        self.assertEqual(texts(flood.levels()), ["3", "1", "0"])
        flood.pour(1, 2)
        self.assertEqual([texts(flood.levels()), flood.bodies()], [["3", "3", "0"], [(0, 1), (2, 2)]])

    def test_rain_falls_by_width_and_weight(self):
        flood = Flood(Profile([9, 0, 9], [1, 3, 1]))
        flood.rain(Ratio(1, 2), weights=[4, 5, 0])
        self.assertEqual(volumes(flood), ["17/2", "1", "0", "0"])

    def test_profiles_without_a_valley(self):
        for heights, expected in [([3], ["0", "1/2", "1/2", "0"]), ([1, 2, 3], ["0", "5/2", "1/2", "0"]),
                                  ([2, 2], ["0", "1", "1", "0"]), ([1, 2, 2, 0, 0], ["0", "2", "3", "0"])]:
            flood = Flood(Profile(heights))
            self.assertEqual(flood.rain(1), [])
            self.assertEqual(volumes(flood), expected)
            self.assertEqual([flood.levels(), flood.bodies()], [[], []])


class EventsTest(Case):
    def check_events(self, heights, amount, expected, weights=None, widths=None):
        flood = Flood(Profile(heights, widths))
        self.assertEqual(shown(flood.rain(amount, weights=weights)), expected)
        return flood

    def test_examples_of_the_document(self):
        flood = self.check_events([3, 0, 1, 0, 3], 2, [("1/2", "joined", 0, 1), ("2", "full", 0, 1)])
        self.assertEqual([texts(flood.levels()), volumes(flood)], [["3", "3"], ["8", "1", "1", "0"]])
        flood = Flood(Profile([3, 0, 1, 0, 3]))
        self.assertEqual(shown(flood.pour(1, 5)), [("1", "full", 0, 0), ("2", "joined", 0, 1)])
        self.check_ratio(flood.pump(3, 10), "4")
        self.check_ratio(flood.surface(1), "1")
        self.assertEqual([3 in flood, 2 in flood], [False, False])
        self.check_ratio(flood.dry(2), "1")
        self.check_ratio(flood.taken, "5")

    def test_kinds_of_values(self):
        found = Flood(Profile([3, 0, 1, 0, 3])).rain(2)
        self.assertIs(found.__class__, list)
        for event in found:
            self.assertIs(event.__class__, tuple)
            self.assertEqual([part.__class__ for part in event], [Ratio, str, int, int])

    def test_the_end_of_the_rain_is_such_a_moment(self):
        self.check_events([3, 0, 3], Ratio(3, 2), [("3/2", "full", 0, 0)])
        self.check_events([3, 0, 3], Ratio(149, 100), [])

    def test_an_event_at_the_end_is_not_told_again(self):
        flood = self.check_events([3, 0, 3], Ratio(3, 2), [("3/2", "full", 0, 0)])
        self.assertEqual(flood.rain(5), [])

    def test_at_one_moment_joined_comes_first_and_each_word_from_left_to_right(self):
        self.check_events([9, 0, 1, 0, 5, 0, 1, 0, 9], Ratio(1, 2),
                          [("1/2", "joined", 0, 1), ("1/2", "joined", 2, 3)])
        self.check_events([9, 0, 1, 0, 4, 3, 3, 4, 1, 1, 5, 0, 1, 0, 9], Ratio(1, 2), [
            ("1/2", "joined", 0, 1), ("1/2", "joined", 4, 5)], weights=[1] * 5 + [0] * 5 + [1] * 5)
        self.check_events([9, 1, 2, 0, 4, 3, 5, 0, 1, 0, 9], Ratio(1, 2), [
            ("1/2", "joined", 3, 4), ("1/2", "full", 0, 0), ("1/2", "full", 2, 2)])

    def test_full_bodies_from_left_to_right(self):
        self.check_events([9, 1, 2, 0, 9, 0, 4, 3, 5], Ratio(1, 2), [("1/2", "full", 0, 0), ("1/2", "full", 3, 3)])

    def test_a_joined_body_that_is_full_at_once(self):
        self.check_events([2, 0, 2, 0, 2], 1, [("1", "joined", 0, 1), ("1", "full", 0, 1)])
        self.check_events([3, 0, 2, 0, 2], 1, [("1", "joined", 0, 1), ("1", "full", 0, 1)])

    def test_three_valleys_that_join_at_one_moment(self):
        self.check_events([2, 0, 2, 0, 2, 0, 2], 1, [("1", "joined", 0, 2), ("1", "full", 0, 2)])
        self.check_events([9, 0, 2, 0, 2, 0, 9], 2, [("1", "joined", 0, 2)])

    def test_a_body_that_fills_both_neighbours_at_one_moment(self):
        flood = Flood(Profile([9, 0, 2, 1, 2, 0, 9]))
        self.assertEqual(shown(flood.pour(3, 5)), [("1", "full", 1, 1), ("5", "joined", 0, 2)])

    def test_valleys_that_join_one_after_the_other(self):
        flood = Flood(Profile([9, 0, 2, 0, 4, 0, 9]))
        self.assertEqual(shown(flood.pour(1, 24)), [
            ("2", "full", 0, 0), ("4", "joined", 0, 1), ("10", "full", 0, 1), ("14", "joined", 0, 2)])
        self.assertEqual(shown(flood.pour(5, 20)), [("15", "full", 0, 2)])

    def test_a_valley_that_gets_full_and_joins_its_neighbour_is_not_told_as_full(self):
        self.check_events([9, 0, 2, 0, 9], 1, [("1", "joined", 0, 1)])

    def test_a_body_that_waits_for_its_neighbour(self):
        self.check_events([9, 1, 2, 0, 9], 2, [("1/2", "full", 0, 0), ("3/4", "joined", 0, 1)])

    def test_columns_on_which_nothing_falls(self):
        flood = self.check_events([9, 0, 9, 0, 9], 7, [], weights=[0, 1, 0, 0, 0])
        self.assertEqual(texts(flood.levels()), ["7", "0"])
        flood = self.check_events([9, 0, 9, 0, 9], 9, [("9", "full", 0, 0)], weights=(0, 1, 0, 0, 0))
        self.assertEqual(volumes(flood), ["9", "0", "0", "0"])

    def test_no_rain_anywhere(self):
        for name, profile in edge_profiles():
            flood = flooded(profile, random.Random(1))
            before = content(flood)
            self.assertEqual(flood.rain(10 ** 59, weights=[0] * len(profile)), [])
            self.check_unchanged(flood, before)

    def test_the_amount_0(self):
        for name, profile in edge_profiles():
            flood = flooded(profile, random.Random(2))
            before = content(flood)
            for nothing in (0, Ratio(0)):
                self.assertEqual(flood.rain(nothing), [])
                self.assertEqual(flood.rain(nothing, weights=[HUGE] * len(profile)), [])
                self.assertEqual(flood.pour(0, nothing), [])
            self.check_unchanged(flood, before)

    def test_weights_none_are_all_1(self):
        for profile in random_profiles(3, 20):
            one, other, third = Flood(profile), Flood(profile), Flood(profile)
            found = one.rain(2)
            self.assertEqual(other.rain(2, weights=None), found)
            self.assertEqual(third.rain(2, weights=tuple([1] * len(profile))), found)
            self.assertEqual([one, one], [other, third])

    def test_the_greatest_weights(self):
        flood = self.check_events([9, 0, 9], 1, [(str(Fraction(9, HUGE)), "full", 0, 0)], weights=[0, HUGE, 0])
        self.assertEqual(volumes(flood), ["9", str(Fraction(HUGE - 9, 2)), str(Fraction(HUGE - 9, 2)), "0"])

    def test_the_moments_of_pouring_are_volumes(self):
        flood = Flood(Profile([9, 0, 9], [5, 2, 5]))
        self.assertEqual(shown(flood.pour(1, 20)), [("18", "full", 0, 0)])
        flood = Flood(Profile([9, 0, 9], [5, 2, 5]))
        self.assertEqual(shown(flood.pour(0, 40)), [("36", "full", 0, 0)])

    def test_arguments_by_name(self):
        flood = Flood(profile=Profile([9, 0, 9]))
        self.assertEqual(shown(flood.rain(weights=[0, 1, 0], amount=9)), [("9", "full", 0, 0)])
        self.assertEqual(flood.pour(volume=9, column=1), [])
        self.assertEqual(volumes(flood), ["9", "9/2", "9/2", "0"])

    def test_weights_by_name_only(self):
        flood = Flood(Profile([9, 0, 9]))
        with self.assertRaises(TypeError):
            flood.rain(1, [1, 1, 1])
        self.assertEqual(flood, Flood(Profile([9, 0, 9])))


class SecondFloodTest(Case):
    """Each state and each event as a second program finds it that moves levels instead of volumes."""

    def check_same(self, flood, oracle):
        self.assertEqual(fractions(flood.levels()), oracle.levels)
        self.assertEqual(flood.bodies(), oracle.bodies())
        self.assertEqual(fractions([flood.left, flood.right]), oracle.out)
        self.assertEqual(fraction(flood.stored), oracle.stored())
        for first, last in flood.bodies():
            for valley in range(first, last + 1):
                self.assertEqual(flood.is_full(valley), oracle.is_full((first, last)))

    def check_rain(self, profile, amounts, weights):
        flood, oracle = Flood(profile), oracle_of(profile)
        for amount in amounts:
            self.assertEqual(exact(flood.rain(amount, weights=weights)), oracle.rain(fraction(amount), weights))
            self.check_same(flood, oracle)

    def test_all_profiles_of_up_to_five_columns_with_three_heights(self):
        for many in range(1, 6):
            for heights in itertools.product(range(3), repeat=many):
                self.check_rain(Profile(heights), [Ratio(1, 3), Ratio(2, 3), 3], None)

    def test_edges_with_several_weights(self):
        chance = random.Random(5)
        for name, profile in edge_profiles():
            self.check_rain(profile, [Ratio(1, 2)] * 5 + [50], None)
            for _ in range(4):
                self.check_rain(profile, [1, Ratio(5, 7), 40], random_weights(chance, profile))

    def test_pouring_on_each_column(self):
        for name, profile in edge_profiles():
            for column in range(len(profile)):
                flood, oracle = Flood(profile), oracle_of(profile)
                for volume in (Ratio(1, 2), 3, 70):
                    self.assertEqual(exact(flood.pour(column, volume)), oracle.pour(column, fraction(volume)))
                    self.check_same(flood, oracle)

    def test_rain_and_pouring_in_turn(self):
        chance = random.Random(6)
        for profile in random_profiles(6, 200, columns=14):
            flood, oracle = Flood(profile), oracle_of(profile)
            for _ in range(3):
                amount, column = random_amount(chance), chance.randrange(len(profile))
                weights = random_weights(chance, profile)
                self.assertEqual(exact(flood.rain(amount, weights=weights)), oracle.rain(fraction(amount), weights))
                self.assertEqual(exact(flood.pour(column, amount * 4)), oracle.pour(column, fraction(amount) * 4))
                self.check_same(flood, oracle)


class PartsTest(Case):
    """Rain in several parts with the same weights."""

    def check_parts(self, profile, parts, weights):
        whole, divided = Flood(profile), Flood(profile)
        expected = exact(whole.rain(sum(parts, Ratio(0)), weights=weights))
        found, fallen = [], Ratio(0)
        for part in parts:
            found += [(fraction(when + fallen), *event) for when, *event in divided.rain(part, weights=weights)]
            fallen = fallen + part
        self.assertEqual(found, expected)
        self.assertEqual(divided, whole)

    def test_the_same_state_and_the_same_events(self):
        chance = random.Random(7)
        for profile in [profile for name, profile in edge_profiles()] + random_profiles(7, 60):
            for weights in (None, random_weights(chance, profile), random_weights(chance, profile)):
                self.check_parts(profile, [random_amount(chance) for _ in range(5)] + [30], weights)

    def test_parts_that_end_at_events(self):
        for name, profile in edge_profiles():
            moments = [0] + [when for when, *event in Flood(profile).rain(100)] + [100]
            self.check_parts(profile, [Ratio(0) + later - earlier for earlier, later in zip(moments, moments[1:])],
                             None)


class ErrorsTest(Case):
    def floods(self):
        for name, profile in edge_profiles():
            flood = flooded(profile, random.Random(8))
            yield flood, content(flood), len(profile)

    def test_invalid_amounts(self):
        for flood, before, many in self.floods():
            for value in no_amounts():
                self.check_error(InvalidNumber, "value", value, flood.rain, value)
                self.check_error(InvalidNumber, "value", value, flood.pour, 0, value)
            self.check_unchanged(flood, before)

    def test_invalid_columns(self):
        for flood, before, many in self.floods():
            for value in no_columns(many):
                self.check_error(InvalidColumn, "value", value, flood.pour, value, 1)
            self.check_unchanged(flood, before)

    def test_weights_that_are_no_row_of_this_length(self):
        for flood, before, many in self.floods():
            for value in [*no_rows(), [], (), [1] * (many - 1), [1] * (many + 1), (None,) * (many + 1)]:
                self.check_error(InvalidWeights, "index", None, flood.rain, 1, weights=value)
            self.check_unchanged(flood, before)

    def test_invalid_weights(self):
        for flood, before, many in self.floods():
            for value in [*no_integers(), -1, HUGE + 1]:
                for index in {0, many // 2, many - 1}:
                    row = [1] * index + [value] * (many - index)
                    self.check_error(InvalidWeights, "index", index, flood.rain, 1, weights=row)
                    self.check_error(InvalidWeights, "index", index, flood.rain, 0, weights=tuple(row))
            self.check_unchanged(flood, before)

    def test_the_leftmost_invalid_argument_comes_first(self):
        flood = Flood(Profile([3, 0, 3]))
        self.check_error(InvalidNumber, "value", -1, flood.rain, -1, weights=[])
        self.check_error(InvalidNumber, "value", None, flood.rain, None, weights=[1, 1, None])
        self.check_error(InvalidColumn, "value", 3, flood.pour, 3, -1)
        self.check_error(InvalidColumn, "value", True, flood.pour, True, None)

    def test_the_error_keeps_the_value_itself(self):
        flood, value = Flood(Profile([3, 0, 3])), Ratio(-1, 2)
        for call in (lambda: flood.rain(value), lambda: flood.pour(1, value)):
            with self.assertRaises(InvalidNumber) as caught:
                call()
            self.assertIs(caught.exception.value, value)

    def test_an_object_is_no_weight(self):
        thing = Thing()
        self.check_error(InvalidWeights, "index", None, Flood(Profile([1])).rain, 1, weights=thing)


class CopiesTest(Case):
    def test_given_values_stay_as_they_were(self):
        profile, amount, weights = Profile([3, 0, 1, 0, 3]), Ratio(3, 2), [1, 2, 3, 4, 5]
        flood = Flood(profile)
        flood.rain(amount, weights=weights)
        flood.pour(1, amount)
        self.assertEqual(repr([profile, amount, weights]),
                         "[Profile([3, 0, 1, 0, 3], [1, 1, 1, 1, 1]), Ratio(3, 2), [1, 2, 3, 4, 5]]")

    def test_changing_given_weights_later_changes_nothing(self):
        weights = [1, 2, 3, 4, 5]
        flood, other = Flood(Profile([3, 0, 1, 0, 3])), Flood(Profile([3, 0, 1, 0, 3]))
        flood.rain(1, weights=weights)
        weights[1] = 100
        other.rain(1, weights=[1, 2, 3, 4, 5])
        self.assertEqual(flood, other)

    def test_changing_returned_events_changes_nothing(self):
        for name, profile in edge_profiles():
            one, other = Flood(profile), Flood(profile)
            one.rain(3).clear()
            one.pour(0, 3).append(1)
            other.rain(3)
            other.pour(0, 3)
            self.assertEqual(content(one), content(other))
            self.assertEqual(one.rain(9), other.rain(9))


if __name__ == "__main__":
    unittest.main()
