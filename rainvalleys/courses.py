"""Courses: everything that happens during rain, told in steps that can be checked."""

from rainvalleys.checks import checked_amount, checked_weights
from rainvalleys.integers import is_whole
from rainvalleys.ratios import as_ratio
from rainvalleys.showers import rain_rates


def shower_on(flood, weights):
    """Rain with these weights that begins to fall on a flood, which stays as it is."""
    profile = flood.profile
    return flood.shower(rain_rates(profile, checked_weights(profile, weights)))


def step_of(shower):
    """The step that starts now."""
    rows = [(pool.first, pool.last, pool.volume, pool.gain) for pool in shower.pools]
    return shower.now, rows, shower.left_rate, shower.right_rate


def course(flood, amount, *, weights=None):
    """The steps of rain on a flood."""
    end = checked_amount(amount)
    shower = shower_on(flood, weights)
    steps = []
    while shower.now < end:
        steps.append(step_of(shower))
        shower.advance(shower.next_span(end))
    return steps


def is_number(value):
    """Whether the value is a number."""
    return as_ratio(value) is not None


def has_row_form(value):
    """Whether the value is a tuple of two integers and two numbers."""
    if not isinstance(value, tuple) or len(value) != 4:
        return False
    first, last, volume, gain = value
    return is_whole(first) and is_whole(last) and is_number(volume) and is_number(gain)


def has_step_form(value):
    """Whether the value is a tuple of a number, a list of rows and two numbers."""
    if not isinstance(value, tuple) or len(value) != 4:
        return False
    start, rows, left, right = value
    if not isinstance(rows, list) or not all([has_row_form(row) for row in rows]):
        return False
    return is_number(start) and is_number(left) and is_number(right)


def can_advance(shower, span):
    """Whether a step may take this part of the amount: no body gets more than fits into it."""
    longest = shower.until_change()
    return span > 0 and (longest is None or span <= longest)


def is_followed(shower, steps, end):
    """Whether these steps, which have the right form, tell what happens until the end."""
    stops = [step[0] for step in steps[1:]] + [end]
    for step, stop in zip(steps, stops):
        span = stop - shower.now
        if step_of(shower) != step or not can_advance(shower, span):
            return False
        shower.advance(span)
    return True


def check_course(flood, amount, course, *, weights=None):
    """Whether the value is a course of this rain on this flood, in which steps may also be divided."""
    end = checked_amount(amount)
    shower = shower_on(flood, weights)
    if not isinstance(course, list) or not all([has_step_form(step) for step in course]):
        return False
    if end == 0 or len(course) == 0:
        return end == 0 and len(course) == 0
    return is_followed(shower, course, end)
