"""Values that several tests use."""

from rainvalleys.profiles import Profile
from rainvalleys.ratios import Ratio

HUGE = 10 ** 30


class Thing:
    """An object that is neither a number nor anything else that is asked for."""


def no_numbers():
    return [True, False, None, "1", "", b"1", [1], [], (1,), (), {}, {1: 1}, Thing(), Profile([1])]


def no_integers():
    return [*no_numbers(), Ratio(1), Ratio(1, 2)]


def no_rows():
    """Values that are neither a list nor a tuple."""
    return [True, False, 0, 3, "", "123", b"123", {}, {0: 1}, {1, 2}, range(3), Ratio(3), Thing(), Profile([1])]
