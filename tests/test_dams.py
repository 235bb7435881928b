import random
import unittest

from cases import Case, edge_profiles, no_columns, random_profiles
from rainvalleys.amounts import end_volume, flood_after
from rainvalleys.dams import best_dam, dam_gain
from rainvalleys.errors import InvalidColumn, InvalidNumber, LimitExceeded
from rainvalleys.profiles import Profile
from rainvalleys.ratios import Ratio
from samples import HUGE, no_integers

EXAMPLE = Profile([3, 0, 1, 0, 2])


def profiles(seed, many):
    return [profile for name, profile in edge_profiles()] + random_profiles(seed, many)


def stored_in_the_end(heights, widths):
    """The end volume as a flood finds it that gets much rain."""
    return flood_after(Profile(heights, widths), 10 ** 6).stored


def gains_by_rain(profile, height):
    found = []
    for column in range(len(profile)):
        heights = list(profile.heights)
        heights[column] += height
        found.append(stored_in_the_end(heights, profile.widths) - stored_in_the_end(profile.heights, profile.widths))
    return found


class DamGainTest(Case):
    def test_example_of_the_document(self):
        self.check_ratio(dam_gain(EXAMPLE, 4, 1), "3")
        self.check_ratio(dam_gain(EXAMPLE, 1, 1), "-1")

    def test_the_gain_is_the_difference_of_the_end_volumes(self):
        for profile in profiles(1, 40):
            for height in (0, 1, 3, 50):
                gains = [dam_gain(profile, column, height) for column in range(len(profile))]
                self.assertEqual(gains, gains_by_rain(profile, height))
                self.assertEqual({gain.__class__ for gain in gains}, {Ratio})

    def test_positive_negative_and_no_gains(self):
        for column, height, expected in [(0, 5, "0"), (0, 0, "0"), (4, 100, "3"), (2, 1, "-1"), (2, 5, "0"),
                                         (3, 2, "-2")]:
            self.check_ratio(dam_gain(EXAMPLE, column, height), expected)

    def test_wide_columns(self):
        profile = Profile([3, 0, 3, 1], [1, 10 ** 30, 1, 1])
        self.check_ratio(dam_gain(profile, 1, 2), str(-2 * 10 ** 30))
        self.check_ratio(dam_gain(profile, 2, 9), "0")

    def test_invalid_columns(self):
        for profile in profiles(2, 5):
            for value in no_columns(len(profile)):
                for height in (1, -1, None):
                    self.check_error(InvalidColumn, "value", value, dam_gain, profile, value, height)

    def test_invalid_heights(self):
        for value in [*no_integers(), -1, HUGE + 1, Ratio(2)]:
            self.check_error(InvalidNumber, "value", value, dam_gain, EXAMPLE, 1, value)

    def test_too_high(self):
        profile = Profile([HUGE, 0, 1])
        self.check_error(LimitExceeded, "limit", HUGE, dam_gain, profile, 0, 1)
        self.check_error(LimitExceeded, "limit", HUGE, dam_gain, profile, 2, HUGE)
        self.check_ratio(dam_gain(profile, 2, HUGE - 1), str(HUGE - 1))
        self.check_ratio(dam_gain(profile, 0, 0), "0")

    def test_by_name(self):
        self.check_ratio(dam_gain(height=1, column=4, profile=EXAMPLE), "3")


class BestDamTest(Case):
    def check_best(self, found, column, gain):
        self.assertIs(found.__class__, tuple)
        self.assertEqual(len(found), 2)
        self.assertIs(found[0].__class__, int)
        self.assertEqual(found[0], column)
        self.check_ratio(found[1], gain)

    def test_example_of_the_document(self):
        self.check_best(best_dam(EXAMPLE, 2), 4, "3")

    def test_the_first_column_with_the_greatest_gain(self):
        for profile in profiles(3, 60):
            for height in (0, 1, 2, 7):
                gains = gains_by_rain(profile, height)
                self.check_best(best_dam(profile, height), gains.index(max(gains)), str(max(gains)))

    def test_several_equal_gains(self):
        self.check_best(best_dam(Profile([2, 0, 2, 0, 2]), 1), 0, "0")
        self.check_best(best_dam(Profile([1, 0, 5, 0, 1]), 4), 0, "4")
        self.check_best(best_dam(Profile([1, 1, 1]), 0), 0, "0")

    def test_only_losses(self):
        profile = Profile([HUGE, 0, 1, 0, HUGE])
        self.check_best(best_dam(profile, HUGE), 1, str(-HUGE))
        self.check_best(best_dam(Profile([HUGE, -1, HUGE]), 1), 1, "-1")

    def test_columns_that_would_become_too_high_are_left_out(self):
        profile = Profile([5, 0, HUGE])
        self.check_best(best_dam(profile, HUGE - 5), 0, str(HUGE - 5))
        self.check_best(best_dam(profile, HUGE - 4), 1, "-5")
        self.check_best(best_dam(profile, HUGE), 1, "-5")
        self.check_best(best_dam(Profile([HUGE, HUGE - 1]), 1), 1, "0")

    def test_no_column_is_left(self):
        self.assertIsNone(best_dam(Profile([HUGE]), 1))
        self.assertIsNone(best_dam(Profile([HUGE, HUGE, HUGE]), HUGE))
        self.assertIsNone(best_dam(Profile([1, 2, HUGE]), HUGE))
        self.check_best(best_dam(Profile([HUGE]), 0), 0, "0")

    def test_invalid_heights(self):
        for value in [*no_integers(), -1, HUGE + 1, Ratio(2)]:
            for profile in (EXAMPLE, Profile([HUGE])):
                self.check_error(InvalidNumber, "value", value, best_dam, profile, value)

    def test_by_name(self):
        self.check_best(best_dam(height=2, profile=EXAMPLE), 4, "3")

    def test_the_profile_stays_as_it_was(self):
        profile = Profile([3, 0, 1, 0, 2])
        best_dam(profile, 3)
        dam_gain(profile, 1, 3)
        self.assertEqual(repr(profile), "Profile([3, 0, 1, 0, 2], [1, 1, 1, 1, 1])")

    def test_at_the_limits(self):
        chance = random.Random(4)
        profile = Profile([chance.randint(-HUGE, HUGE - 10) for _ in range(60)],
                          [chance.randint(1, HUGE) for _ in range(60)])
        column, gain = best_dam(profile, 10)
        self.assertEqual(gain, dam_gain(profile, column, 10))
        raised = profile.raised(column, 10)
        self.assertEqual(gain, end_volume(raised) - end_volume(profile))
        self.assertTrue(all(dam_gain(profile, other, 10) <= gain for other in range(60)))
        self.assertTrue(all(dam_gain(profile, other, 10) < gain for other in range(column)))


if __name__ == "__main__":
    unittest.main()
