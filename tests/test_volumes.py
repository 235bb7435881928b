import itertools
import random
import unittest
from fractions import Fraction

from cases import Case, fraction, no_amounts, no_columns, random_profiles
from rainvalleys.errors import InvalidColumn, InvalidNumber
from rainvalleys.profiles import Profile
from rainvalleys.ratios import Ratio
from rainvalleys.volumes import level_for, volume_up_to
from samples import HUGE, no_numbers


def runs(profile):
    return [(first, last) for first in range(len(profile)) for last in range(first, len(profile))]


def expected_volume(profile, first, last, level):
    """By the words of the document."""
    return sum(profile.widths[column] * max(Fraction(0), level - profile.heights[column])
               for column in range(first, last + 1))


class VolumeTest(Case):
    def test_examples_of_the_document(self):
        p = Profile([3, 0, 1, 3], [1, 2, 1, 1])
        self.check_ratio(volume_up_to(p, 1, 2, 2), "5")
        self.check_ratio(level_for(p, 1, 2, 3), "4/3")
        self.check_ratio(level_for(p, 0, 3, 0), "0")
        self.check_ratio(volume_up_to(p, 1, 1, -5), "0")

    def test_arguments_by_name(self):
        p = Profile([3, 0, 1, 3], [1, 2, 1, 1])
        self.check_ratio(volume_up_to(level=2, last=2, first=1, profile=p), "5")
        self.check_ratio(level_for(volume=3, last=2, first=1, profile=p), "4/3")

    def test_levels_are_integers_and_fractions(self):
        p = Profile([3, 0, 1, 3], [1, 2, 1, 1])
        for level, expected in [(-7, "0"), (0, "0"), (Ratio(1, 2), "1"), (1, "2"), (Ratio(3, 2), "7/2"), (3, "8"),
                                (Ratio(7, 2), "21/2"), (Ratio(-1, 3), "0"), (Ratio(2), "5")]:
            self.check_ratio(volume_up_to(p, 0, 3, level), expected)

    def test_levels_below_zero_and_below_the_ground(self):
        p = Profile([-3, -5, 2], [1, 4, 1])
        for level, expected in [(-6, "0"), (-5, "0"), (Ratio(-9, 2), "2"), (-3, "8"), (Ratio(-1, 2), "41/2")]:
            self.check_ratio(volume_up_to(p, 0, 2, level), expected)
        for volume, expected in [(0, "-5"), (2, "-9/2"), (8, "-3"), (Ratio(41, 2), "-1/2"), (33, "2"), (39, "3")]:
            self.check_ratio(level_for(p, 0, 2, volume), expected)

    def test_volume_0_gives_the_least_height_of_the_columns(self):
        for profile in random_profiles(1, 40):
            for first, last in runs(profile):
                for nothing in (0, Ratio(0)):
                    least = min(profile.heights[first:last + 1])
                    self.check_ratio(level_for(profile, first, last, nothing), str(least))

    def test_volumes_of_all_runs(self):
        for profile in random_profiles(2, 40):
            for first, last in runs(profile):
                for level in [-1, 0, Ratio(1, 3), 1, Ratio(5, 2), 3, 12, Ratio(40, 3)]:
                    found = volume_up_to(profile, first, last, level)
                    self.assertEqual(fraction(found), expected_volume(profile, first, last, fraction(level)))

    def test_levels_of_all_runs(self):
        for profile in random_profiles(3, 40):
            for first, last in runs(profile):
                for volume in [1, Ratio(1, 3), 2, Ratio(13, 2), 9, 40, Ratio(1000, 7)]:
                    level = level_for(profile, first, last, volume)
                    found = expected_volume(profile, first, last, fraction(level))
                    self.assertEqual(found, fraction(volume))

    def test_both_agree_where_there_is_water(self):
        p = Profile([3, 0, 1, 3, 3], [1, 2, 1, 1, 5])
        for top in range(1, 60):
            level = Ratio(top, 7)
            self.assertEqual(level_for(p, 0, 4, volume_up_to(p, 0, 4, level)), level)

    def test_one_column_and_large_numbers(self):
        p = Profile([-HUGE, HUGE], [HUGE, HUGE])
        self.check_ratio(volume_up_to(p, 0, 1, HUGE), str(2 * 10 ** 60))
        self.check_ratio(volume_up_to(p, 0, 1, Ratio(10 ** 59, 3)), str(Fraction(2 * 10 ** 89, 3)))
        self.check_ratio(level_for(p, 0, 1, Ratio(1, HUGE)), str(-HUGE + Fraction(1, 10 ** 60)))
        self.check_ratio(level_for(p, 0, 1, 10 ** 59), str(-9 * 10 ** 29))

    def test_invalid_columns(self):
        p = Profile([3, 0, 1, 3])
        for function in (volume_up_to, level_for):
            for value in no_columns(4):
                self.check_error(InvalidColumn, "value", value, function, p, value, 2, 1)
                self.check_error(InvalidColumn, "value", value, function, p, 1, value, 1)

    def test_a_last_column_before_the_first_one(self):
        p = Profile([3, 0, 1, 3])
        for function in (volume_up_to, level_for):
            for first, last in itertools.combinations(range(4), 2):
                self.check_error(InvalidColumn, "value", first, function, p, last, first, 1)

    def test_invalid_numbers(self):
        p = Profile([3, 0, 1, 3])
        for value in no_numbers():
            self.check_error(InvalidNumber, "value", value, volume_up_to, p, 0, 3, value)
        for value in no_amounts():
            self.check_error(InvalidNumber, "value", value, level_for, p, 0, 3, value)

    def test_the_leftmost_invalid_argument_comes_first(self):
        p = Profile([3, 0, 1, 3])
        for function in (volume_up_to, level_for):
            self.check_error(InvalidColumn, "value", 4, function, p, 4, -1, None)
            self.check_error(InvalidColumn, "value", True, function, p, True, 0, "x")
            self.check_error(InvalidColumn, "value", -1, function, p, 0, -1, None)
            self.check_error(InvalidColumn, "value", 1, function, p, 2, 1, None)

    def test_arguments_stay_as_they_were(self):
        p, level = Profile([3, 0, 1, 3]), Ratio(3, 2)
        volume_up_to(p, 0, 3, level)
        level_for(p, 0, 3, level)
        self.assertEqual([repr(p), repr(level)], ["Profile([3, 0, 1, 3], [1, 1, 1, 1])", "Ratio(3, 2)"])

    def test_the_level_is_the_least_one(self):
        chance = random.Random(4)
        for profile in random_profiles(4, 30):
            volume = Ratio(chance.randint(1, 50), chance.randint(1, 9))
            level = level_for(profile, 0, len(profile) - 1, volume)
            lower = volume_up_to(profile, 0, len(profile) - 1, level - Ratio(1, 10 ** 9))
            self.assertLess(lower, volume)


if __name__ == "__main__":
    unittest.main()
