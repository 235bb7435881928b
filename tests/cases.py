"""Checks and profiles that the tests of floods, courses and amounts have in common."""

import random
import unittest
from fractions import Fraction

from oracle import Oracle
from rainvalleys.floods import Flood
from rainvalleys.profiles import Profile
from rainvalleys.ratios import Ratio
from samples import no_numbers

# Each edge that the document names: heights, and widths where they are not all 1.
EDGES = {
    "one column": ([7], None),
    "no valley": ([1, 2, 2, 1], [3, 1, 2, 5]),
    "slope": ([0, 1, 2], None),
    "flat": ([4, 4, 4], None),
    "one valley": ([3, 0, 2], None),
    "equal rims": ([2, 0, 2], None),
    "outside both peaks": ([0, 3, 1, 3, 2, 2], [2, 1, 1, 1, 3, 1]),
    "two equal valleys": ([3, 0, 1, 0, 3], None),
    "three equal valleys": ([2, 0, 2, 0, 2, 0, 2], None),
    "equal inner peaks": ([5, 0, 2, 1, 2, 0, 5], None),
    "equal inner peaks, one bottom lower": ([5, 0, 2, -3, 2, 0, 4], None),
    "flat peaks": ([3, 3, 0, 2, 2, 2, 1, 4, 4], None),
    "flat bottoms": ([4, 0, 0, 0, 2, 1, 1, 3], None),
    "steps in a valley": ([9, 4, 4, 1, 0, 1, 5, 6], [1, 2, 1, 3, 1, 1, 2, 1]),
    "peak inside a body": ([6, 0, 3, 0, 2, 1, 4, 0, 7], None),
    "wide columns": ([3, 0, 1, 0, 3], [10, 1, 4, 100, 1]),
    "spills to the left": ([1, 0, 3, 0, 5], None),
    "spills to the right over several rims": ([9, 5, 8, 4, 6, 3, 5, 2, 4], None),
    "a rim of equal heights between lower valleys": ([1, 0, 4, 3, 4, 0, 1], None),
    "below zero": ([-1, -6, -4, -9, -2], [1, 2, 3, 4, 5]),
    "all of it": ([2, 5, 1, 3, 3, 0, 5, 2, 4, 2, 5, 4, 6, 1, 1, 2, 0],
                  [1, 2, 1, 1, 4, 1, 1, 3, 1, 1, 1, 2, 1, 1, 1, 1, 9]),
}


def edge_profiles():
    return [(name, Profile(heights, widths)) for name, (heights, widths) in EDGES.items()]


def random_profiles(seed, many, columns=10):
    """Small profiles in which equal heights are frequent, always the same ones for a seed."""
    chance = random.Random(seed)
    found = []
    for _ in range(many):
        length = chance.randint(1, columns)
        top = chance.choice([1, 2, 3, 6, 12])
        widths = [chance.choice([1, 1, 2, 7]) for _ in range(length)]
        found.append(Profile([chance.randint(0, top) for _ in range(length)], widths))
    return found


def random_weights(chance, profile, least=0):
    return [chance.choice([least, 1, 1, 2, 9]) for _ in range(len(profile))]


def random_amount(chance):
    return chance.choice([0, 1, 2, Ratio(1, 2), Ratio(1, 3), Ratio(7, 5), Ratio(chance.randint(0, 40), 7)])


def operations(chance, profile, many):
    """Some operations as tuples of the name of a method and its arguments."""
    found = []
    for _ in range(many):
        column = chance.randrange(len(profile))
        amount = random_amount(chance)
        found.append(chance.choice([
            ("rain", (amount, None)), ("rain", (amount, random_weights(chance, profile))), ("pour", (column, amount)),
            ("pour", (column, amount * 7)), ("pump", (column, amount)), ("pump", (column, amount * 5)),
            ("dry", (amount * Ratio(1, 3),))]))
    return found


def perform(flood, operation):
    """The result of one operation on a flood."""
    word, arguments = operation
    if word == "rain":
        return flood.rain(arguments[0], weights=arguments[1])
    return getattr(flood, word)(*arguments)


def flooded(profile, chance, many=4):
    """A flood after some operations."""
    flood = Flood(profile)
    for operation in operations(chance, profile, many):
        perform(flood, operation)
    return flood


def fraction(number):
    """A number as one of Python's own fractions."""
    if isinstance(number, (int, Fraction)):
        return Fraction(number)
    assert number.__class__ is Ratio, number
    return Fraction(number.top, number.bottom)


def fractions(numbers):
    return [fraction(number) for number in numbers]


def oracle_of(profile):
    return Oracle(profile.heights, profile.widths)


def content(flood):
    """All that a flood tells about itself."""
    columns = range(len(flood.profile))
    return [flood.profile.heights, flood.profile.widths, fractions(flood.levels()), flood.bodies(),
            fractions([flood.stored, flood.left, flood.right, flood.taken]),
            fractions([flood.surface(column) for column in columns])]


def shown(found):
    """Events with the moments as texts."""
    return [(str(when), word, first, last) for when, word, first, last in found]


def exact(found):
    """Events with the moments as fractions."""
    return [(fraction(when), word, first, last) for when, word, first, last in found]


def no_amounts():
    return [*no_numbers(), -1, Ratio(-1), Ratio(-1, 10 ** 9), -10 ** 59]


def no_columns(many):
    return [*no_numbers(), Ratio(0), Ratio(1), -1, many, 10 ** 30, -10 ** 30, Ratio(1, 2)]


class Case(unittest.TestCase):
    def check_error(self, kind, field, value, function, *args, **more):
        with self.assertRaises(kind) as caught:
            function(*args, **more)
        self.assertIs(caught.exception.__class__, kind)
        kept = getattr(caught.exception, field)
        self.assertTrue(kept is value or (kept.__class__ is value.__class__ and kept == value), (kept, value))

    def check_ratio(self, found, expected):
        """The value is a fraction of the package with this value, given as its text."""
        self.assertIs(found.__class__, Ratio)
        self.assertEqual(str(found), expected)

    def check_unchanged(self, flood, before):
        self.assertEqual(content(flood), before)
