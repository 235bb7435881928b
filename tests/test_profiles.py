import unittest

from rainvalleys.errors import InvalidColumn, InvalidNumber, InvalidProfile, InvalidWidths, LimitExceeded
from rainvalleys.profiles import Profile
from rainvalleys.ratios import Ratio
from samples import HUGE, Thing, no_integers, no_rows


def content(profile):
    return profile.heights, profile.widths


class ProfileTest(unittest.TestCase):
    """Common checks of the tests in this file."""

    def check_error(self, kind, field, value, function, *args, **more):
        with self.assertRaises(kind) as caught:
            function(*args, **more)
        self.assertIs(caught.exception.__class__, kind)
        self.assertTrue(getattr(caught.exception, field) is value or getattr(caught.exception, field) == value)


class ConstructorTest(ProfileTest):
    def test_heights_and_widths_are_tuples(self):
        self.assertEqual(content(Profile([2, -3], (1, 3))), ((2, -3), (1, 3)))
        self.assertEqual(content(Profile((2, 0, 5))), ((2, 0, 5), (1, 1, 1)))
        self.assertEqual(content(Profile([4], None)), ((4,), (1,)))
        for part in content(Profile([2, 0], [1, 3])):
            self.assertIsInstance(part, tuple)

    def test_arguments_by_name(self):
        self.assertEqual(content(Profile(widths=[5, 6], heights=[1, 2])), ((1, 2), (5, 6)))

    def test_1_and_60_columns(self):
        self.assertEqual(len(Profile([7])), 1)
        self.assertEqual(content(Profile(list(range(60)), [2] * 60)), (tuple(range(60)), (2,) * 60))

    def test_greatest_and_least_numbers(self):
        self.assertEqual(content(Profile([-HUGE, HUGE], [1, HUGE])), ((-HUGE, HUGE), (1, HUGE)))

    def test_heights_that_are_no_row_of_this_length(self):
        for heights in [*no_rows(), None, [], (), [0] * 61, (0,) * 61, [None] * 61]:
            self.check_error(InvalidProfile, "index", None, Profile, heights)

    def test_invalid_heights(self):
        for value in [*no_integers(), HUGE + 1, -HUGE - 1]:
            self.check_error(InvalidProfile, "index", 0, Profile, [value])
            self.check_error(InvalidProfile, "index", 1, Profile, (0, value, 1, value))
            self.check_error(InvalidProfile, "index", 59, Profile, [0] * 59 + [value])

    def test_widths_that_are_no_row_of_this_length(self):
        for widths in [*no_rows(), [], (), [1], [1, 1, 1], (1,), (0, 0, 0)]:
            self.check_error(InvalidWidths, "index", None, Profile, [1, 2], widths)

    def test_invalid_widths(self):
        for value in [*no_integers(), 0, -1, HUGE + 1]:
            self.check_error(InvalidWidths, "index", 0, Profile, [1], [value])
            self.check_error(InvalidWidths, "index", 1, Profile, [1, 2, 3], (1, value, value))

    def test_the_heights_are_checked_first(self):
        for widths in [None, 5, [], [0], [1]]:
            self.check_error(InvalidProfile, "index", None, Profile, [], widths)
            self.check_error(InvalidProfile, "index", 1, Profile, [1, None], widths)

    def test_the_length_is_checked_before_the_items(self):
        self.check_error(InvalidProfile, "index", None, Profile, ["x"] * 61)
        self.check_error(InvalidWidths, "index", None, Profile, [1, 2], [0])

    def test_given_lists_are_copied_and_not_changed(self):
        heights, widths = [1, 2, 3], [4, 5, 6]
        profile = Profile(heights, widths)
        self.assertEqual([heights, widths], [[1, 2, 3], [4, 5, 6]])
        heights[0] = 9
        widths.append(7)
        self.assertEqual(content(profile), ((1, 2, 3), (4, 5, 6)))

    def test_the_rows_are_properties(self):
        profile = Profile([1])
        for name in ["heights", "widths"]:
            with self.assertRaises(AttributeError):
                setattr(profile, name, (5,))
        self.assertEqual(content(profile), ((1,), (1,)))

    def test_an_invalid_list_is_as_before(self):
        heights = [1, None]
        self.assertRaises(InvalidProfile, Profile, heights)
        self.assertEqual(heights, [1, None])


class SumTest(ProfileTest):
    def test_columns_of_the_first_one_and_then_of_the_second_one(self):
        first, second = Profile([1, 2], [3, 4]), Profile([5], [6])
        self.assertEqual(content(first + second), ((1, 2, 5), (3, 4, 6)))
        self.assertEqual(content(second + first), ((5, 1, 2), (6, 3, 4)))
        self.assertEqual([content(first), content(second)], [((1, 2), (3, 4)), ((5,), (6,))])
        self.assertIsInstance(first + second, Profile)

    def test_60_columns_and_61(self):
        many = Profile([1] * 30)
        self.assertEqual(len(many + many), 60)
        self.check_error(LimitExceeded, "limit", 60, lambda: many + many + Profile([1]))
        self.check_error(LimitExceeded, "limit", 60, lambda: Profile([1]) + (many + many))
        self.assertEqual(content(many), ((1,) * 30, (1,) * 30))


class MirroredTest(ProfileTest):
    def test_from_right_to_left(self):
        profile = Profile([1, 2, 3], [4, 5, 6])
        self.assertEqual(content(profile.mirrored()), ((3, 2, 1), (6, 5, 4)))
        self.assertEqual(content(profile), ((1, 2, 3), (4, 5, 6)))
        self.assertEqual(profile.mirrored().mirrored(), profile)
        self.assertEqual(content(Profile([8], [9]).mirrored()), ((8,), (9,)))


class ScaledTest(ProfileTest):
    def test_factors(self):
        profile = Profile([1, -2], [3, 4])
        self.assertEqual(content(profile.scaled()), ((1, -2), (3, 4)))
        self.assertEqual(content(profile.scaled(10)), ((10, -20), (3, 4)))
        self.assertEqual(content(profile.scaled(10, 100)), ((10, -20), (300, 400)))
        self.assertEqual(content(profile.scaled(width=2)), ((1, -2), (6, 8)))
        self.assertEqual(content(profile.scaled(width=2, height=5)), ((5, -10), (6, 8)))
        self.assertEqual(content(profile), ((1, -2), (3, 4)))

    def test_greatest_factors(self):
        self.assertEqual(content(Profile([1, -1, 0]).scaled(HUGE, HUGE)), ((HUGE, -HUGE, 0), (HUGE,) * 3))

    def test_invalid_factors(self):
        profile = Profile([1])
        for value in [*no_integers(), 0, -1, HUGE + 1]:
            self.check_error(InvalidNumber, "value", value, profile.scaled, value)
            self.check_error(InvalidNumber, "value", value, profile.scaled, width=value)
            self.check_error(InvalidNumber, "value", value, profile.scaled, HUGE, value)

    def test_the_height_is_checked_first(self):
        self.check_error(InvalidNumber, "value", "x", Profile([1]).scaled, "x", "y")
        self.check_error(InvalidNumber, "value", 0, Profile([1]).scaled, width=None, height=0)

    def test_numbers_that_leave_their_range(self):
        most = Profile([HUGE // 2, 0, -HUGE // 2], [HUGE // 2, 1, 1])
        self.assertEqual(content(most.scaled(2, 2)), ((HUGE, 0, -HUGE), (HUGE, 2, 2)))
        self.check_error(LimitExceeded, "limit", HUGE, Profile([HUGE // 2 + 1]).scaled, 2)
        self.check_error(LimitExceeded, "limit", HUGE, Profile([0, -HUGE // 2 - 1]).scaled, 2)
        self.check_error(LimitExceeded, "limit", HUGE, Profile([0, 0], [1, HUGE // 2 + 1]).scaled, 1, 2)
        self.check_error(LimitExceeded, "limit", HUGE, Profile([2], [2]).scaled, HUGE, HUGE)

    def test_invalid_factors_come_before_the_limit(self):
        self.check_error(InvalidNumber, "value", 0, Profile([HUGE]).scaled, 2, 0)


class RaisedTest(ProfileTest):
    def test_one_column(self):
        profile = Profile([1, 2, 3], [4, 5, 6])
        self.assertEqual(content(profile.raised(0, 10)), ((11, 2, 3), (4, 5, 6)))
        self.assertEqual(content(profile.raised(2, 10)), ((1, 2, 13), (4, 5, 6)))
        self.assertEqual(content(profile.raised(height=0, column=1)), ((1, 2, 3), (4, 5, 6)))
        self.assertEqual(content(profile), ((1, 2, 3), (4, 5, 6)))

    def test_greatest_rise(self):
        self.assertEqual(Profile([-HUGE, 0]).raised(0, HUGE).heights, (0, 0))
        self.assertEqual(Profile([-HUGE, 0]).raised(1, HUGE).heights, (-HUGE, HUGE))

    def test_invalid_columns(self):
        for value in [*no_integers(), -1, 3, 10 ** 40]:
            self.check_error(InvalidColumn, "value", value, Profile([1, 2, 3]).raised, value, 1)

    def test_invalid_heights(self):
        for value in [*no_integers(), -1, HUGE + 1]:
            self.check_error(InvalidNumber, "value", value, Profile([1, 2, 3]).raised, 1, value)

    def test_a_height_that_leaves_its_range(self):
        self.assertEqual(Profile([HUGE - 1]).raised(0, 1).heights, (HUGE,))
        self.check_error(LimitExceeded, "limit", HUGE, Profile([HUGE]).raised, 0, 1)
        self.check_error(LimitExceeded, "limit", HUGE, Profile([0, 1]).raised, 1, HUGE)

    def test_the_order_of_the_errors(self):
        self.check_error(InvalidColumn, "value", 1, Profile([HUGE]).raised, 1, "x")
        self.check_error(InvalidColumn, "value", None, Profile([HUGE]).raised, height=None, column=None)
        self.check_error(InvalidNumber, "value", HUGE + 1, Profile([HUGE]).raised, 0, HUGE + 1)


class NoChangeTest(ProfileTest):
    def test_after_errors_a_profile_is_as_before(self):
        profile = Profile([HUGE, 1], [2, HUGE])
        self.assertRaises(LimitExceeded, profile.scaled, 2)
        self.assertRaises(LimitExceeded, profile.scaled, 1, 2)
        self.assertRaises(InvalidNumber, profile.scaled, 0)
        self.assertRaises(LimitExceeded, profile.raised, 0, 1)
        self.assertRaises(InvalidColumn, profile.raised, 2, 1)
        self.assertRaises(InvalidNumber, profile.raised, 0, -1)
        self.assertRaises(LimitExceeded, lambda: profile + Profile([0] * 59))
        self.assertEqual(content(profile), ((HUGE, 1), (2, HUGE)))


class KindTest(ProfileTest):
    def test_equality(self):
        profile = Profile([1, 2], [3, 4])
        self.assertTrue(profile == Profile((1, 2), (3, 4)))
        self.assertFalse(profile != Profile((1, 2), (3, 4)))
        self.assertTrue(Profile([5, 6]) == Profile([5, 6], [1, 1]))
        for other in [Profile([1, 3], [3, 4]), Profile([1, 2], [3, 5]), Profile([1, 2]), Profile([1], [3]),
                      Profile([1, 2, 2], [3, 4, 4]), Profile([2, 1], [4, 3])]:
            self.assertFalse(profile == other)
            self.assertTrue(profile != other)

    def test_not_equal_to_other_kinds(self):
        profile = Profile([1])
        for value in [None, True, 1, Ratio(1), "Profile([1], [1])", [1], (1,), ((1,), (1,)), [[1], [1]], {},
                      Thing(), Profile]:
            self.assertFalse(profile == value)
            self.assertFalse(value == profile)
            self.assertTrue(profile != value)

    def test_length(self):
        self.assertEqual([len(Profile([0] * many)) for many in (1, 2, 60)], [1, 2, 60])

    def test_repr(self):
        self.assertEqual(repr(Profile((1, -2), (3, 4))), "Profile([1, -2], [3, 4])")
        self.assertEqual(repr(Profile([7])), "Profile([7], [1])")

    def test_example_of_the_document(self):
        p = Profile([2, 0], (1, 3)) + Profile([5])
        self.assertEqual([repr(p), repr(p.mirrored()), p.raised(1, 4).heights, p.scaled(width=2).widths, len(p)],
                         ['Profile([2, 0, 5], [1, 3, 1])', 'Profile([5, 0, 2], [1, 3, 1])', (2, 4, 5), (2, 6, 2), 3])


if __name__ == "__main__":
    unittest.main()
