"""Volumes of water over runs of columns."""

from rainvalleys.checks import check_column, checked_amount, checked_number
from rainvalleys.errors import InvalidColumn
from rainvalleys.integers import is_whole_within


def check_run(profile, first, last):
    """Raise the error for columns that do not begin and end a run."""
    check_column(profile, first)
    if not is_whole_within(last, first, len(profile) - 1):
        raise InvalidColumn(last)


def volume_below(profile, first, last, level):
    """The volume for arguments that are valid, with the level as a fraction."""
    heights = profile.heights
    widths = profile.widths
    wet = [column for column in range(first, last + 1) if level > heights[column]]
    wide = sum([widths[column] for column in wet])
    ground = sum([widths[column] * heights[column] for column in wet])
    return level * wide - ground


def level_above(profile, first, last, volume):
    """The level for arguments that are valid, with the volume as a fraction."""
    heights = profile.heights[first:last + 1]
    widths = profile.widths[first:last + 1]
    steps = sorted(set([int(height) for height in heights]))
    wide = 0
    held = 0
    for at, step in enumerate(steps):
        wide = wide + sum([width for height, width in zip(heights, widths) if height == step])
        if at + 1 == len(steps):
            break
        layer = wide * (steps[at + 1] - step)
        if volume <= held + layer:
            break
        held = held + layer
    return (volume - held).over(wide) + step


def volume_up_to(profile, first, last, level):
    """The volume of water over the columns from the first to the last one if this is its level."""
    check_run(profile, first, last)
    return volume_below(profile, first, last, checked_number(level))


def level_for(profile, first, last, volume):
    """The least level with this volume over the columns from the first to the last one."""
    check_run(profile, first, last)
    return level_above(profile, first, last, checked_amount(volume))
