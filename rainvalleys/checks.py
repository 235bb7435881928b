"""Checks of arguments that several modules share. They raise the error that keeps the argument itself."""

from rainvalleys.errors import InvalidColumn, InvalidNumber, InvalidWeights
from rainvalleys.integers import first_outside, is_whole_within
from rainvalleys.profiles import GREATEST, is_row
from rainvalleys.ratios import as_ratio


def checked_number(value):
    """The number as a fraction."""
    found = as_ratio(value)
    if found is None:
        raise InvalidNumber(value)
    return found


def is_amount(value):
    """Whether the value is an amount, a volume or a depth."""
    found = as_ratio(value)
    return found is not None and found >= 0


def checked_amount(value):
    """The amount, volume or depth as a fraction."""
    if not is_amount(value):
        raise InvalidNumber(value)
    return checked_number(value)


def is_column(profile, value):
    """Whether the value is a column of the profile."""
    return is_whole_within(value, 0, len(profile) - 1)


def check_column(profile, value):
    """Raise the error for a value that is not a column of the profile."""
    if not is_column(profile, value):
        raise InvalidColumn(value)


def are_weights(profile, value):
    """Whether the value is a list or tuple with a weight for each column of the profile."""
    many = len(profile)
    return is_row(value, many, many) and first_outside(value, 0, GREATEST) is None


def checked_weights(profile, weights):
    """The weights of the columns as a list; None means that all are 1."""
    many = len(profile)
    if weights is None:
        return [1] * many
    if not is_row(weights, many, many):
        raise InvalidWeights(None)
    wrong = first_outside(weights, 0, GREATEST)
    if wrong is not None:
        raise InvalidWeights(wrong)
    return list(weights)
