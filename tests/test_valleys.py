import itertools
import unittest

from rainvalleys.errors import InvalidValley
from rainvalleys.profiles import Profile
from rainvalleys.valleys import lakes, peaks, rims, valleys
from samples import HUGE, no_integers

EXAMPLE = [1, 4, 0, 2, 2, 1, 5, 3]


def small_profiles():
    """All profiles of up to six columns with heights from 0 to 2, and long ones with rising and falling peaks."""
    for many in range(1, 7):
        for heights in itertools.product(range(3), repeat=many):
            yield Profile(heights)
    yield Profile([0, 9] * 30)
    yield Profile([column if column % 2 else -1 for column in range(60)])
    yield Profile([-column if column % 2 else -99 for column in range(60)])
    yield Profile([column * 7 % 11 for column in range(60)])


def expected_peaks(heights):
    """By the words of the document, for each run of columns."""
    ground = [min(heights) - 1, *heights, min(heights) - 1]
    return [(first, last) for first in range(len(heights)) for last in range(first, len(heights))
            if len(set(heights[first:last + 1])) == 1
            and ground[first] < heights[first] and ground[last + 2] < heights[last]]


def expected_lakes(tops):
    """By the words of the document, for each run of at least two valleys."""
    found = []
    ends = (0, len(tops) - 1)
    for first, last in itertools.combinations(range(len(tops) - 1), 2):
        height = max(tops[first + 1:last + 1])
        if all(tops[side] > height or side in ends and tops[side] >= height for side in (first, last + 1)):
            found.append((height, first, last))
    return sorted(found)


class PeaksTest(unittest.TestCase):
    def test_example_of_the_document(self):
        p = Profile(EXAMPLE)
        self.assertEqual([peaks(p), valleys(p), rims(p, 0), rims(p, 1), lakes(p)],
                         [[(1, 1), (3, 4), (6, 6)], [(2, 2), (5, 5)], (4, 2), (2, 5), [(2, 0, 1)]])

    def test_one_column_and_one_height_throughout(self):
        for many in (1, 2, 60):
            for height in (0, HUGE, -HUGE):
                profile = Profile([height] * many)
                self.assertEqual(peaks(profile), [(0, many - 1)])
                self.assertEqual([valleys(profile), lakes(profile)], [[], []])

    def test_slopes_have_one_peak_and_no_valley(self):
        for heights, expected in [([1, 2, 3], [(2, 2)]), ([3, 3, 1], [(0, 1)]), ([1, 2, 2, 1], [(1, 2)]),
                                  ([-HUGE, HUGE], [(1, 1)])]:
            profile = Profile(heights)
            self.assertEqual([peaks(profile), valleys(profile), lakes(profile)], [expected, [], []])

    def test_peaks_of_several_columns(self):
        profile = Profile([5, 5, 0, 0, 3, 3, 3, 1, 4, 4])
        self.assertEqual(peaks(profile), [(0, 1), (4, 6), (8, 9)])
        self.assertEqual(valleys(profile), [(2, 3), (7, 7)])
        self.assertEqual([rims(profile, 0), rims(profile, 1)], [(5, 3), (3, 4)])

    def test_a_step_is_no_peak(self):
        profile = Profile([5, 2, 2, 1, 2, 2, 3, 3, 0])
        self.assertEqual([peaks(profile), valleys(profile)], [[(0, 0), (6, 7)], [(1, 5)]])

    def test_60_columns(self):
        profile = Profile([0, 1] * 30)
        self.assertEqual(peaks(profile), [(column, column) for column in range(1, 60, 2)])
        self.assertEqual(valleys(profile), [(column, column) for column in range(2, 60, 2)])

    def test_widths_do_not_matter(self):
        narrow, wide = Profile(EXAMPLE), Profile(EXAMPLE, [HUGE, 2, 3, 4, 5, 6, 7, 8])
        self.assertEqual([peaks(narrow), valleys(narrow), lakes(narrow)], [peaks(wide), valleys(wide), lakes(wide)])

    def test_small_profiles_by_the_words_of_the_document(self):
        for profile in small_profiles():
            with self.subTest(profile):
                tops = expected_peaks(profile.heights)
                between = [(left[1] + 1, right[0] - 1) for left, right in zip(tops, tops[1:])]
                self.assertEqual(peaks(profile), tops)
                self.assertEqual(valleys(profile), between)
                heights = [profile.heights[first] for first, last in tops]
                self.assertEqual([rims(profile, valley) for valley in range(len(between))],
                                 list(zip(heights, heights[1:])))
                self.assertEqual(lakes(profile), expected_lakes(heights))


class RimsTest(unittest.TestCase):
    def check_error(self, profile, value):
        with self.assertRaises(InvalidValley) as caught:
            rims(profile, value)
        self.assertTrue(caught.exception.value is value)

    def test_rims_are_a_tuple_of_integers(self):
        found = rims(Profile([3, 0, -1, 7]), 0)
        self.assertEqual(found, (3, 7))
        self.assertEqual([found.__class__, found[0].__class__], [tuple, int])

    def test_values_that_are_no_valley(self):
        for value in [*no_integers(), -1, 2, 10 ** 40]:
            self.check_error(Profile(EXAMPLE), value)

    def test_no_valley_at_all(self):
        for profile in [Profile([1]), Profile([1, 2]), Profile([1] * 60)]:
            for value in [0, -1, 1, None]:
                self.check_error(profile, value)

    def test_arguments_by_name(self):
        profile = Profile(EXAMPLE)
        self.assertEqual(rims(valley=1, profile=profile), (2, 5))
        self.assertEqual([peaks(profile=profile), valleys(profile=profile), lakes(profile=profile)],
                         [peaks(profile), valleys(profile), lakes(profile)])


class LakesTest(unittest.TestCase):
    def check(self, tops, expected):
        """A profile with peaks of these heights, and with a deep valley between any two of them."""
        heights = [height for top in tops for height in (top, -9)][:-1]
        self.assertEqual(lakes(Profile(heights)), expected)

    def test_one_valley_is_no_lake(self):
        self.check([3, 5], [])

    def test_equal_peaks_beside_each_other(self):
        self.check([3, 3, 3], [(3, 0, 1)])
        self.check([3, 3, 3, 3], [(3, 0, 2)])
        self.check([5, 3, 3, 5], [(3, 0, 2)])
        self.check([5, 3, 3, 3], [(3, 0, 2)])
        self.check([3, 3, 3, 5], [(3, 0, 2)])

    def test_equal_peaks_inside_are_no_sides(self):
        self.check([5, 1, 3, 3, 4], [(1, 0, 1), (3, 0, 3)])
        self.check([5, 3, 1, 3, 5], [(1, 1, 2), (3, 0, 3)])

    def test_lower_ends_are_no_sides(self):
        self.check([2, 3, 5], [])
        self.check([5, 3, 2], [])
        self.check([2, 3, 3], [])

    def test_ascending_order_is_by_height_and_then_by_valleys(self):
        self.check([9, 4, 9, 2, 9], [(2, 2, 3), (4, 0, 1), (9, 0, 3)])
        self.check([8, 1, 9, 1, 8], [(1, 0, 1), (1, 2, 3)])
        self.check([10, 1, 3, 2, 9, 4, 12], [(1, 0, 1), (2, 2, 3), (3, 0, 3), (4, 4, 5), (9, 0, 5)])
        self.check([10, 3, 11, -2, 10, -3, 12, 0, 9], [(-3, 4, 5), (-2, 2, 3), (0, 6, 7), (3, 0, 1), (10, 2, 5)])


class NewListsTest(unittest.TestCase):
    def test_changing_a_returned_list_changes_nothing(self):
        profile = Profile(EXAMPLE, [1, 2, 3, 4, 5, 6, 7, 8])
        for function in (peaks, valleys, lakes):
            found = function(profile)
            expected = list(found)
            found[0] = None
            found.append("x")
            self.assertEqual(function(profile), expected)
        self.assertEqual(profile, Profile(EXAMPLE, [1, 2, 3, 4, 5, 6, 7, 8]))

    def test_rims_leave_the_profile_as_before_also_with_an_error(self):
        profile = Profile(EXAMPLE)
        rims(profile, 0)
        self.assertRaises(InvalidValley, rims, profile, 2)
        self.assertEqual(profile, Profile(EXAMPLE))


if __name__ == "__main__":
    unittest.main()
