import random
import unittest

from cases import (Case, content, edge_profiles, flooded, fraction, fractions, no_amounts, oracle_of,
                   random_profiles, random_weights)
from rainvalleys.courses import check_course, course
from rainvalleys.errors import InvalidNumber, InvalidWeights
from rainvalleys.floods import Flood
from rainvalleys.profiles import Profile
from rainvalleys.ratios import Ratio
from samples import HUGE, Thing, no_integers, no_numbers, no_rows

EXAMPLE = [3, 0, 1, 0, 3]


def rains(seed, many):
    """Floods, each with an amount and weights that may fall on it."""
    chance = random.Random(seed)
    for profile in [profile for name, profile in edge_profiles()] * 2 + random_profiles(seed, many):
        weights = chance.choice([None, random_weights(chance, profile)])
        yield flooded(profile, chance, 3), chance.choice([1, Ratio(5, 7), 3, 20]), weights


def exact_step(step):
    start, rows, left, right = step
    return (fraction(start), [(first, last, fraction(volume), fraction(gain)) for first, last, volume, gain in rows],
            fraction(left), fraction(right))


def expected_steps(flood, starts, weights):
    """The steps with these starts, as the second program of the tests finds them."""
    found = []
    rates = [width * weight for width, weight in zip(flood.profile.widths, weights or [1] * len(flood.profile))]
    for start in starts:
        oracle = oracle_of(flood.profile)
        oracle.levels = fractions(flood.levels())
        oracle.fall(rates, fraction(start))
        gains, left, right = oracle.gains(rates)
        rows = [(*body, oracle.volume(body), gain) for body, gain in zip(oracle.bodies(), gains)]
        found.append((fraction(start), rows, left, right))
    return found


def with_numbers(steps, change):
    """The same steps with each number changed."""
    return [(change(start), [(first, last, change(volume), change(gain)) for first, last, volume, gain in rows],
             change(left), change(right)) for start, rows, left, right in steps]


def ratio(number):
    return Ratio(number.numerator, number.denominator)


def whole(number):
    """An integer in place of a whole fraction."""
    return number.top if number.bottom == 1 else number


def places(steps):
    """Where the numbers of a course stand: the indexes that lead to them."""
    for at, (start, rows, left, right) in enumerate(steps):
        yield from [(at, 0), (at, 2), (at, 3)]
        for index in range(len(rows)):
            yield from [(at, 1, index, part) for part in range(4)]


def value_at(value, place):
    for index in place:
        value = value[index]
    return value


def replaced(value, place, new):
    """The list or tuple with another value at this place."""
    if not place:
        return new
    items = list(value)
    items[place[0]] = replaced(items[place[0]], place[1:], new)
    return value.__class__(items)


class CourseTest(Case):
    def test_example_of_the_document(self):
        flood = Flood(Profile(EXAMPLE))
        steps = course(flood, 1)
        told = [(str(start), [(first, last, str(volume), str(gain)) for first, last, volume, gain in rows],
                 str(left), str(right)) for start, rows, left, right in steps]
        self.assertEqual(told, [("0", [(0, 0, "0", "2"), (1, 1, "0", "2")], "1/2", "1/2"),
                                ("1/2", [(0, 1, "2", "4")], "1/2", "1/2")])
        self.assertIs(check_course(flood, 1, steps), True)
        self.assertIs(check_course(flood, 1, steps[:1]), False)

    def test_kinds_of_values(self):
        steps = course(Flood(Profile(EXAMPLE)), 5)
        self.assertIs(steps.__class__, list)
        for step in steps:
            self.assertEqual([part.__class__ for part in (step, *step)], [tuple, Ratio, list, Ratio, Ratio])
            for row in step[1]:
                self.assertEqual([part.__class__ for part in (row, *row)], [tuple, int, int, Ratio, Ratio])

    def test_starts_at_0_and_at_each_moment_with_an_event_before_the_end(self):
        for flood, amount, weights in rains(1, 60):
            moments = [when for when, *event in flood.clone().rain(amount, weights=weights) if when < amount]
            expected = [Ratio(0)] + [when for at, when in enumerate(moments) if at == 0 or moments[at - 1] != when]
            self.assertEqual([step[0] for step in course(flood, amount, weights=weights)], expected)

    def test_an_event_at_the_end_starts_no_step(self):
        flood = Flood(Profile(EXAMPLE))
        self.assertEqual([str(step[0]) for step in course(flood, Ratio(1, 2))], ["0"])
        self.assertEqual([str(step[0]) for step in course(flood, 2)], ["0", "1/2"])
        self.assertEqual([str(step[0]) for step in course(flood, Ratio(201, 100))], ["0", "1/2", "2"])

    def test_bodies_volumes_gains_and_what_leaves(self):
        for flood, amount, weights in rains(2, 60):
            found = [exact_step(step) for step in course(flood, amount, weights=weights)]
            self.assertEqual(found, expected_steps(flood, [step[0] for step in found], weights))

    def test_a_full_body_tells_what_it_passes_on(self):
        flood = Flood(Profile([2, 0, 2, 0, 9]))
        flood.pour(1, 2)
        (start, rows, left, right), = course(flood, Ratio(1, 4))
        self.assertEqual([(first, last, str(volume), str(gain)) for first, last, volume, gain in rows],
                         [(0, 0, "2", "2"), (1, 1, "0", "3")])
        self.assertEqual([str(left), str(right)], ["3/2", "1/2"])

    def test_the_amount_0(self):
        for flood, amount, weights in rains(3, 20):
            self.assertEqual(course(flood, 0, weights=weights), [])
            self.assertEqual(course(flood, Ratio(0)), [])

    def test_nothing_falls(self):
        flood = Flood(Profile(EXAMPLE))
        steps = course(flood, 7, weights=[0] * 5)
        zero = Ratio(0)
        self.assertEqual(steps, [(zero, [(0, 0, zero, zero), (1, 1, zero, zero)], zero, zero)])
        self.assertIs(check_course(flood, 7, steps, weights=[0] * 5), True)

    def test_no_valley(self):
        flood = Flood(Profile([1, 2, 2, 1], [1, 2, 3, 4]))
        steps = course(flood, 7)
        self.assertEqual(steps, [(Ratio(0), [], Ratio(7, 2), Ratio(13, 2))])
        self.assertIs(check_course(flood, 7, steps), True)
        self.assertIs(check_course(flood, 7, [(0, (), Ratio(7, 2), Ratio(13, 2))]), False)

    def test_the_flood_does_not_change(self):
        for flood, amount, weights in rains(4, 30):
            before = content(flood)
            steps = course(flood, amount, weights=weights)
            check_course(flood, amount, steps, weights=weights)
            check_course(flood, amount, steps[1:], weights=weights)
            self.check_unchanged(flood, before)

    def test_changing_a_returned_course_changes_nothing(self):
        flood = Flood(Profile(EXAMPLE))
        before, steps = content(flood), course(flood, 1)
        steps[0][1].clear()
        steps.clear()
        self.check_unchanged(flood, before)
        self.assertEqual([len(steps), len(course(flood, 1)), len(course(flood, 1)[0][1])], [0, 2, 2])

    def test_given_weights_and_courses_stay_as_they_were(self):
        flood, weights, amount = Flood(Profile(EXAMPLE)), [1, 2, 3, 4, 5], Ratio(7, 5)
        steps = course(flood, amount, weights=weights)
        told = repr(steps)
        self.assertIs(check_course(flood, amount, steps, weights=weights), True)
        self.assertEqual([weights, repr(amount), repr(steps)], [[1, 2, 3, 4, 5], "Ratio(7, 5)", told])

    def test_arguments_by_name(self):
        flood = Flood(Profile(EXAMPLE))
        weights = [0, 1, 0, 3, 0]
        steps = course(weights=weights, amount=1, flood=flood)
        self.assertEqual(steps, course(flood, 1, weights=tuple(weights)))
        self.assertIs(check_course(weights=weights, course=steps, amount=1, flood=flood), True)
        self.assertIs(check_course(flood, 1, steps, weights=None), False)
        self.assertEqual(course(flood, 1, weights=None), course(flood, 1))

    def test_weights_by_name_only(self):
        flood = Flood(Profile(EXAMPLE))
        with self.assertRaises(TypeError):
            course(flood, 1, [1] * 5)
        with self.assertRaises(TypeError):
            check_course(flood, 1, [], [1] * 5)


class CheckTest(Case):
    def check(self, flood, amount, weights, steps, expected):
        self.assertIs(check_course(flood, amount, steps, weights=weights), expected, (content(flood), steps))

    def test_courses(self):
        for flood, amount, weights in rains(5, 60):
            self.check(flood, amount, weights, course(flood, amount, weights=weights), True)

    def test_integers_for_the_numbers(self):
        for flood, amount, weights in rains(6, 60):
            steps = with_numbers(course(flood, amount, weights=weights), whole)
            self.assertIs(steps[0][0].__class__, int)
            self.check(flood, amount, weights, steps, True)

    def test_divided_steps(self):
        for flood, amount, weights in rains(7, 40):
            starts = [step[0] for step in course(flood, amount, weights=weights)]
            stops = starts[1:] + [amount]
            more = [start + (stop - start) * Ratio(part, 3) for start, stop in zip(starts, stops) for part in range(3)]
            steps = with_numbers(expected_steps(flood, more, weights), ratio)
            self.assertEqual(len(steps), 3 * len(starts))
            self.check(flood, amount, weights, steps, True)
            for at in range(len(steps)):
                self.check(flood, amount, weights, steps[:at] + steps[at + 1:], at % 3 != 0)
                self.check(flood, amount, weights, steps[:at] + steps[at:at + 1] + steps[at:], False)

    def test_missing_steps(self):
        for flood, amount, weights in rains(8, 40):
            steps = course(flood, amount, weights=weights)
            for at in range(len(steps)):
                self.check(flood, amount, weights, steps[:at] + steps[at + 1:], False)
                self.check(flood, amount, weights, steps[:at], False)

    def test_steps_that_do_not_ascend_or_begin_too_late(self):
        for flood, amount, weights in rains(9, 40):
            steps = course(flood, amount, weights=weights)
            later = with_numbers(expected_steps(flood, [amount], weights), ratio)
            self.check(flood, amount, weights, steps + later, False)
            self.check(flood, amount, weights, steps + steps[-1:], False)
            self.check(flood, amount, weights, steps[:1] + [replaced(steps[0], (0,), -1)], False)
            self.check(flood, amount, weights, [replaced(steps[0], (0,), -1)] + steps, False)
            if len(steps) > 1:
                self.check(flood, amount, weights, steps[::-1], False)

    def test_a_course_of_another_amount_is_none_if_it_is_too_long_or_too_short(self):
        flood = Flood(Profile(EXAMPLE))
        steps = course(flood, 5)
        self.assertEqual([str(step[0]) for step in steps], ["0", "1/2", "2"])
        for amount, expected in [(5, True), (Ratio(21, 10), True), (10 ** 59, True), (2, False), (1, False)]:
            self.check(flood, amount, None, steps, expected)
        for amount, expected in [(2, True), (1, True), (Ratio(3, 5), True), (Ratio(201, 100), False), (5, False),
                                 (Ratio(1, 2), False)]:
            self.check(flood, amount, None, steps[:2], expected)
        for amount, expected in [(Ratio(1, 2), True), (Ratio(1, 9), True), (Ratio(51, 100), False), (0, False)]:
            self.check(flood, amount, None, steps[:1], expected)

    def test_each_wrong_number(self):
        for flood, amount, weights in rains(10, 12):
            steps = course(flood, amount, weights=weights)
            for place in places(steps):
                old = value_at(steps, place)
                near = [old + Ratio(1, 10 ** 20)] if old.__class__ is Ratio else []
                for new in [old + 1, old - 1, old * 2 + 1, *near]:
                    self.check(flood, amount, weights, replaced(steps, place, new), False)

    def test_each_value_of_another_kind(self):
        flood = flooded(Profile([9, 0, 4, 1, 4, 2, 9]), random.Random(11))
        steps = course(flood, 30)
        self.assertGreater(len(steps), 1)
        for place in places(steps):
            for new in [*no_numbers(), [value_at(steps, place)], (value_at(steps, place),)]:
                self.check(flood, 30, None, replaced(steps, place, new), False)

    def test_valleys_are_integers(self):
        flood = Flood(Profile(EXAMPLE))
        steps = course(flood, Ratio(1, 2))
        for row, part, value in [(0, 0, 0), (0, 1, 0), (1, 0, 1), (1, 1, 1)]:
            for new in [Ratio(value), bool(value), str(value), None]:
                self.check(flood, Ratio(1, 2), None, replaced(steps, (0, 1, row, part), new), False)

    def test_true_and_false_are_no_numbers(self):
        flood = Flood(Profile([2, 1, 2]))
        one = Ratio(1)
        steps = [(Ratio(0), [(0, 0, Ratio(0), Ratio(2))], Ratio(1, 2), Ratio(1, 2))]
        self.check(flood, Ratio(1, 2), None, steps, True)
        for place in [(0, 0), (0, 1, 0, 2)]:
            self.check(flood, Ratio(1, 2), None, replaced(steps, place, 0), True)
            self.check(flood, Ratio(1, 2), None, replaced(steps, place, False), False)
        flood.rain(Ratio(1, 2))
        self.assertEqual(course(flood, 1), [(Ratio(0), [(0, 0, one, Ratio(2))], Ratio(3, 2), Ratio(3, 2))])
        steps = course(flood, 1, weights=[0, 1, 0])
        self.assertEqual(steps, [(Ratio(0), [(0, 0, one, one)], Ratio(1, 2), Ratio(1, 2))])
        for place in [(0, 1, 0, 2), (0, 1, 0, 3)]:
            self.assertIs(check_course(flood, 1, replaced(steps, place, 1), weights=[0, 1, 0]), True)
            self.assertIs(check_course(flood, 1, replaced(steps, place, True), weights=[0, 1, 0]), False)

    def test_values_that_are_no_list_of_steps(self):
        flood = Flood(Profile(EXAMPLE))
        steps = course(flood, 1)
        start, rows, left, right = steps[0]
        wrong = [*no_numbers(), 0, 1, Ratio(1), flood, tuple(steps), dict(enumerate(steps)), [steps], [None], [0],
                 [*steps, None], [None, *steps], [list(step) for step in steps], "steps", {1}]
        for step in [(), (start,), (start, rows, left), (start, rows, left, right, right), (rows, start, left, right),
                     (start, tuple(rows), left, right), (start, None, left, right), (start, [], left, right),
                     (start, rows[:1], left, right), (start, rows[::-1], left, right), (start, rows * 2, left, right),
                     (start, [*rows, None], left, right), (start, [list(row) for row in rows], left, right),
                     (start, [row[:3] for row in rows], left, right), (start, [(*row, 0) for row in rows], left, right),
                     (start, [()] * 2, left, right), (start, dict(enumerate(rows)), left, right)]:
            wrong.append([step, steps[1]])
        for value in wrong:
            for amount in (0, 1):
                expected = amount == 0 and value.__class__ is list and len(value) == 0
                self.assertIs(check_course(flood, amount, value), expected, value)

    def test_the_amount_0(self):
        for flood, amount, weights in rains(12, 20):
            steps = course(flood, amount, weights=weights)
            for nothing in (0, Ratio(0)):
                self.check(flood, nothing, weights, [], True)
                for value in [steps, steps[:1], (), None, {}, "", [None], [[]]]:
                    self.check(flood, nothing, weights, value, False)
            self.check(flood, amount, weights, [], False)

    def test_a_course_of_another_flood(self):
        flood, other = Flood(Profile(EXAMPLE)), Flood(Profile(EXAMPLE))
        other.pour(1, Ratio(1, 3))
        self.check(flood, 1, None, course(other, 1), False)
        self.check(other, 1, None, course(flood, 1), False)
        self.check(flood, 1, None, course(flood, 1, weights=[1, 1, 1, 1, 2]), False)


class ErrorsTest(Case):
    def calls(self, flood, amount, weights):
        """Both functions, the second one with all sorts of courses."""
        yield lambda: course(flood, amount, weights=weights)
        for steps in [[], None, Thing(), [None], course(Flood(Profile(EXAMPLE)), 1)]:
            yield lambda: check_course(flood, amount, steps, weights=weights)

    def check_calls(self, kind, field, value, amount, weights):
        flood = flooded(Profile(EXAMPLE), random.Random(13))
        before = content(flood)
        for call in self.calls(flood, amount, weights):
            self.check_error(kind, field, value, call)
        self.check_unchanged(flood, before)

    def test_invalid_amounts(self):
        for value in no_amounts():
            self.check_calls(InvalidNumber, "value", value, value, None)

    def test_invalid_weights(self):
        for value in [*no_rows(), [], [1] * 4, (1,) * 6]:
            self.check_calls(InvalidWeights, "index", None, 1, value)
            self.check_calls(InvalidWeights, "index", None, 0, value)
        for value in [*no_integers(), -1, HUGE + 1]:
            self.check_calls(InvalidWeights, "index", 3, 1, [0, 1, 2, value, value])
            self.check_calls(InvalidWeights, "index", 0, 0, (value, 1, 2, 3, 4))

    def test_the_leftmost_invalid_argument_comes_first(self):
        self.check_calls(InvalidNumber, "value", -1, -1, [])
        self.check_calls(InvalidNumber, "value", None, None, [None] * 5)


if __name__ == "__main__":
    unittest.main()
