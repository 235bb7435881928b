"""Where water can stand on a profile, and the bodies that it forms there. All arguments are valid."""

from rainvalleys.profiles import Profile
from rainvalleys.ratios import Ratio
from rainvalleys.valleys import peak_heights, peaks, valleys
from rainvalleys.volumes import level_above, volume_below


class Basins:
    """The peaks and valleys of a profile, found once for all that happens on it. It never changes."""

    def __init__(self, profile):
        self.ground = Profile(profile.heights, profile.widths)
        self.summits = peaks(self.ground)
        self.tops = peak_heights(self.ground)
        self.dips = valleys(self.ground)
        self.floors = [lowest(self.ground.heights[first:last + 1]) for first, last in self.dips]


def lowest(heights):
    """The least one of some heights, as a level."""
    return Ratio(min([int(height) for height in heights]))


def columns_of(basins, first, last):
    """The first and the last column of a body, given by its valleys."""
    return basins.dips[first][0], basins.dips[last][1]


def has_column(basins, first, last, column):
    """Whether this body has this column."""
    left, right = columns_of(basins, first, last)
    return left <= column <= right


def volume_of(basins, first, last, level):
    """What a body holds at this level."""
    left, right = columns_of(basins, first, last)
    return volume_below(basins.ground, left, right, level)


def level_of(basins, first, last, volume):
    """The level of a body that holds this volume."""
    left, right = columns_of(basins, first, last)
    return level_above(basins.ground, left, right, volume)


def lower_rim(basins, first, last):
    """The height of the lower rim of a body."""
    return min(int(basins.tops[first]), basins.tops[last + 1])


def is_one_body(basins, levels, valley):
    """Whether this valley and the next one belong to one body at these levels."""
    top = basins.tops[valley + 1]
    return levels[valley] >= top and levels[valley + 1] >= top


def body_runs(basins, levels):
    """The bodies at these levels, as runs of valleys from left to right."""
    runs = []
    first = 0
    for valley in range(len(levels)):
        if valley + 1 == len(levels) or not is_one_body(basins, levels, valley):
            runs.append((first, valley))
            first = valley + 1
    return runs


def stored_volume(basins, levels):
    """What all bodies hold together at these levels."""
    runs = body_runs(basins, levels)
    return sum([volume_of(basins, first, last, levels[first]) for first, last in runs], start=Ratio(0))
