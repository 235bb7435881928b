"""Dams: what a column that is raised adds to the water that is stored in the end."""

from rainvalleys.amounts import end_volume
from rainvalleys.errors import InvalidNumber
from rainvalleys.integers import is_whole_within
from rainvalleys.profiles import GREATEST


def dam_gain(profile, column, height):
    """By how much the end volume grows if the column is raised by this height."""
    raised = profile.raised(column, height)
    return end_volume(raised) - end_volume(profile)


def best_dam(profile, height):
    """The first column with the greatest gain, and this gain, or None if no column can be raised so much."""
    if not is_whole_within(height, 0, GREATEST):
        raise InvalidNumber(height)
    best = None
    for column, old in enumerate(profile.heights):
        if old + height > GREATEST:
            continue
        gain = dam_gain(profile, column, height)
        if best is None or gain > best[1]:
            best = (column, gain)
    return best
