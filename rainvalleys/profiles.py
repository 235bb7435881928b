"""Profiles of columns."""

from rainvalleys.errors import InvalidColumn, InvalidNumber, InvalidProfile, InvalidWidths, LimitExceeded
from rainvalleys.integers import first_outside, is_whole_within

MOST_COLUMNS = 60
GREATEST = 10 ** 30


def is_row(values, least, most):
    """Whether the value is a list or tuple with a length from the least to the most."""
    return isinstance(values, (list, tuple)) and least <= len(values) <= most


def check_heights(heights):
    """Raise the error for heights that are no heights of a profile."""
    if not is_row(heights, 1, MOST_COLUMNS):
        raise InvalidProfile(None)
    wrong = first_outside(heights, -GREATEST, GREATEST)
    if wrong is not None:
        raise InvalidProfile(wrong)


def check_widths(widths, many):
    """Raise the error for widths that are not the widths of so many columns."""
    if not is_row(widths, many, many):
        raise InvalidWidths(None)
    wrong = first_outside(widths, 1, GREATEST)
    if wrong is not None:
        raise InvalidWidths(wrong)


def grown_profile(heights, widths):
    """The profile with these integers, of which some may have left their range."""
    if first_outside(heights, -GREATEST, GREATEST) is not None:
        raise LimitExceeded(GREATEST)
    if first_outside(widths, 1, GREATEST) is not None:
        raise LimitExceeded(GREATEST)
    return Profile(heights, widths)


class Profile:
    """The columns of a profile, from left to right."""

    def __init__(self, heights, widths=None):
        check_heights(heights)
        if widths is None:
            widths = [1] * len(heights)
        check_widths(widths, len(heights))
        self.column_heights = tuple(heights)
        self.column_widths = tuple(widths)

    @property
    def heights(self):
        """The heights of the columns."""
        return self.column_heights

    @property
    def widths(self):
        """The widths of the columns."""
        return self.column_widths

    def mirrored(self):
        """The profile from right to left."""
        return Profile(self.column_heights[::-1], self.column_widths[::-1])

    def scaled(self, height=1, width=1):
        """The profile with all heights and widths multiplied by the factors."""
        for factor in (height, width):
            if not is_whole_within(factor, 1, GREATEST):
                raise InvalidNumber(factor)
        heights = [old * height for old in self.column_heights]
        widths = [old * width for old in self.column_widths]
        return grown_profile(heights, widths)

    def raised(self, column, height):
        """The profile with one column higher by this height."""
        if not is_whole_within(column, 0, len(self) - 1):
            raise InvalidColumn(column)
        if not is_whole_within(height, 0, GREATEST):
            raise InvalidNumber(height)
        heights = list(self.column_heights)
        heights[column] = heights[column] + height
        return grown_profile(heights, self.column_widths)

    def __add__(self, other):
        if not isinstance(other, Profile):
            return NotImplemented
        if len(self) + len(other) > MOST_COLUMNS:
            raise LimitExceeded(MOST_COLUMNS)
        return Profile(self.column_heights + other.column_heights, self.column_widths + other.column_widths)

    def __eq__(self, other):
        return (isinstance(other, Profile) and self.column_heights == other.column_heights
                and self.column_widths == other.column_widths)

    def __len__(self):
        return len(self.column_heights)

    def __repr__(self):
        return f"Profile({list(self.column_heights)}, {list(self.column_widths)})"
