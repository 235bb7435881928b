"""Floods, courses and amounts at the limits of the document: 60 columns and large numbers."""

import random
import unittest

from cases import Case, exact, fraction, fractions, oracle_of
from rainvalleys.amounts import (amount_to_exceed, amount_to_reach, amount_to_store, end_amount, end_surfaces,
                                 end_volume, events, fitting_amounts, flood_after)
from rainvalleys.courses import check_course, course
from rainvalleys.floods import Flood
from rainvalleys.profiles import Profile
from rainvalleys.ratios import Ratio
from rainvalleys.volumes import level_for, volume_up_to
from samples import HUGE

TOP, BOTTOM = 10 ** 60 - 1, 10 ** 59 + 7


def large_profiles():
    """Profiles of 60 columns with as many valleys as possible, and steps to the left and to the right."""
    chance = random.Random(51)
    widths = [chance.randint(1, HUGE) for _ in range(60)]
    rough = [chance.randint(0, HUGE) if column % 2 == 0 else chance.randint(-HUGE, -1) for column in range(60)]
    yield Profile(rough, widths)
    yield Profile([HUGE - column * 10 ** 28 if column % 2 == 0 else -HUGE for column in range(60)], widths)
    yield Profile([column * 10 ** 28 - HUGE if column % 2 == 0 else -HUGE for column in range(60)], [HUGE] * 60)
    yield Profile([HUGE if column % 2 == 0 else -HUGE for column in range(60)])


def large_weights():
    chance = random.Random(52)
    return [chance.choice([0, 1, HUGE, chance.randint(0, HUGE)]) for _ in range(60)]


class LimitsTest(Case):
    def check_same(self, flood, oracle):
        self.assertEqual(fractions(flood.levels()), oracle.levels)
        self.assertEqual(flood.bodies(), oracle.bodies())
        self.assertEqual(fractions([flood.left, flood.right, flood.taken, flood.stored]),
                         [*oracle.out, oracle.taken, oracle.stored()])

    def test_operations(self):
        weights = large_weights()
        for profile in large_profiles():
            flood, oracle = Flood(profile), oracle_of(profile)
            amount, volume, depth = Ratio(TOP, BOTTOM), Ratio(TOP, 3 * 10 ** 30), Ratio(HUGE - 1, HUGE + 1)
            self.assertEqual(exact(flood.rain(amount, weights=weights)), oracle.rain(fraction(amount), weights))
            self.assertEqual(exact(flood.pour(21, TOP)), oracle.pour(21, TOP))
            self.assertEqual(fraction(flood.pump(1, volume)), oracle.pump(1, fraction(volume)))
            self.assertEqual(fraction(flood.pump(57, TOP)), oracle.pump(57, TOP))
            self.check_same(flood, oracle)
            self.assertEqual(fraction(flood.dry(depth)), oracle.dry(fraction(depth)))
            self.assertEqual(exact(flood.rain(HUGE)), oracle.rain(HUGE))
            self.check_same(flood, oracle)

    def test_courses(self):
        weights = large_weights()
        for profile in large_profiles():
            flood = Flood(profile)
            flood.pour(31, TOP)
            for amount in (Ratio(TOP, BOTTOM), TOP):
                steps = course(flood, amount, weights=weights)
                self.assertIs(check_course(flood, amount, steps, weights=weights), True)
                self.assertIs(check_course(flood, amount, steps[1:], weights=weights), False)
                moments = {str(when) for when, *event in flood.clone().rain(amount, weights=weights) if when < amount}
                self.assertEqual([str(step[0]) for step in steps][1:], sorted(moments, key=fraction_of_text))

    def test_amounts(self):
        for profile in large_profiles():
            found = list(events(profile))
            self.assertEqual(exact(found), oracle_of(profile).rain(10 ** 100))
            self.assertEqual(end_amount(profile), found[-1][0])
            end = flood_after(profile, end_amount(profile))
            self.assertEqual([end.surface(column) for column in range(60)], end_surfaces(profile))
            self.assertEqual(end.stored, end_volume(profile))
            middle = flood_after(profile, end_amount(profile) * Ratio(1, 3))
            self.assertEqual(flood_after(profile, amount_to_store(profile, middle.stored)).stored, middle.stored)
            for column in (0, 1, 17, 30, 58, 59):
                depth = middle.depth(column)
                self.assertEqual(flood_after(profile, amount_to_reach(profile, column, depth)).depth(column), depth)
                last = amount_to_exceed(profile, column, depth)
                self.assertTrue(last is None or flood_after(profile, last).depth(column) == depth)
            seen = [(column, middle.depth(column)) for column in range(60)]
            least, greatest = fitting_amounts(profile, seen * 33)
            self.assertTrue(least <= end_amount(profile) * Ratio(1, 3) <= greatest)

    def test_volumes(self):
        for profile in large_profiles():
            for level in (Ratio(TOP, BOTTOM), HUGE, min(profile.heights) + Ratio(1, BOTTOM), TOP):
                volume = volume_up_to(profile, 0, 59, level)
                self.assertEqual(level_for(profile, 0, 59, volume), level)

    def test_the_other_end_of_the_numbers(self):
        flood = Flood(Profile([HUGE, -HUGE, HUGE]))
        self.assertEqual(flood.rain(Ratio(1, TOP), weights=[0, 1, 0]), [])
        self.check_ratio(flood.depth(1), str(Ratio(1, TOP)))
        self.check_ratio(flood.pump(1, Ratio(1, 2 * TOP)), str(Ratio(1, 2 * TOP)))
        self.check_ratio(flood.dry(1), str(Ratio(1, 2 * TOP)))
        self.check_ratio(flood.stored, "0")


def fraction_of_text(text):
    return fraction(Ratio.parse(text))


if __name__ == "__main__":
    unittest.main()
