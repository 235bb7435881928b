"""Floods: the water on a profile, and how rain, pouring, pumping and drying change it."""

from rainvalleys.basins import Basins, body_runs, has_column, level_of, lower_rim, stored_volume, volume_of
from rainvalleys.checks import check_column, checked_amount, checked_weights, is_column
from rainvalleys.errors import InvalidValley
from rainvalleys.integers import is_whole_within
from rainvalleys.ratios import Ratio
from rainvalleys.showers import Shower, rain_rates


def higher(first, second):
    """The higher one of two levels."""
    if first > second:
        return first
    return second


def pump_stop(basins, first, last, height):
    """The height at which pumping at this height stops, or at which the body falls into parts."""
    return max([int(top) for top in [height] + basins.tops[first + 1:last + 1]])


def part_with(basins, first, last, column, height):
    """The valleys of the part with this lower column when the body falls to inner peaks of this height."""
    start = first
    for peak in range(first + 1, last + 1):
        if basins.tops[peak] == height:
            if basins.summits[peak][0] > column:
                return start, peak - 1
            start = peak
    return start, last


def with_level(levels, first, last, level):
    """The levels with another one for the valleys from the first to the last one."""
    return levels[:first] + [level] * (last + 1 - first) + levels[last + 1:]


def pumped(basins, levels, body, column, volume):
    """The levels after the volume, or what can be, is taken at a column that is under water of this body."""
    first, last = body
    height = basins.ground.heights[column]
    rest = volume
    while True:
        stop = pump_stop(basins, first, last, height)
        held = volume_of(basins, first, last, levels[first])
        layer = held - volume_of(basins, first, last, Ratio(stop))
        if rest <= layer:
            return with_level(levels, first, last, level_of(basins, first, last, held - rest))
        levels = with_level(levels, first, last, Ratio(stop))
        if stop == height:
            return levels
        rest = rest - layer
        first, last = part_with(basins, first, last, column, stop)


class Flood:
    """The water on a profile, which is dry in the beginning."""

    def __init__(self, profile):
        self.basins = Basins(profile)
        self.valley_levels = list(self.basins.floors)
        self.left_volume = Ratio(0)
        self.right_volume = Ratio(0)
        self.taken_volume = Ratio(0)

    @property
    def profile(self):
        """The profile."""
        return self.basins.ground

    @property
    def stored(self):
        """The stored volume."""
        return stored_volume(self.basins, self.valley_levels)

    @property
    def left(self):
        """The volume that left at the left end."""
        return self.left_volume

    @property
    def right(self):
        """The volume that left at the right end."""
        return self.right_volume

    @property
    def taken(self):
        """The volume that was pumped or dried away."""
        return self.taken_volume

    def rain(self, amount, *, weights=None):
        """Let rain fall on all columns and return the events."""
        end = checked_amount(amount)
        chosen = checked_weights(self.basins.ground, weights)
        return self.receive(rain_rates(self.basins.ground, chosen), end)

    def pour(self, column, volume):
        """Let this volume fall on one column and return the events."""
        check_column(self.basins.ground, column)
        end = checked_amount(volume)
        rates = [0] * len(self.basins.ground)
        rates[column] = 1
        return self.receive(rates, end)

    def receive(self, rates, end):
        """Let water fall with these rates for the columns and return the events."""
        shower = self.shower(rates)
        found = shower.fall(end)
        self.settle(shower)
        return found

    def shower(self, rates):
        """Water that begins to fall with these rates on a flood like this one."""
        return Shower(self.basins, self.valley_levels, rates)

    def settle(self, shower):
        """Become what the flood is after all that fell in this shower."""
        self.valley_levels = shower.present_levels()
        self.left_volume = self.left_volume + shower.left_gone
        self.right_volume = self.right_volume + shower.right_gone

    def pump(self, column, volume):
        """Take water away at a column and return its volume."""
        check_column(self.basins.ground, column)
        wanted = checked_amount(volume)
        if column not in self:
            return Ratio(0)
        body = self.body_with(column)
        return self.sink(pumped(self.basins, self.valley_levels, body, column, wanted))

    def dry(self, depth):
        """Lower each level, but not below the bottom, and return the volume that is taken away."""
        sunk = checked_amount(depth)
        levels = [higher(level - sunk, floor) for level, floor in zip(self.valley_levels, self.basins.floors)]
        return self.sink(levels)

    def sink(self, levels):
        """Lower the levels to these and return the volume that is taken away."""
        lost = self.stored - stored_volume(self.basins, levels)
        self.valley_levels = levels
        self.taken_volume = self.taken_volume + lost
        return lost

    def levels(self):
        """The levels of the valleys."""
        return list(self.valley_levels)

    def bodies(self):
        """The bodies as runs of valleys, from left to right."""
        return body_runs(self.basins, self.valley_levels)

    def body_of(self, valley):
        """The body that has this valley."""
        return [body for body in self.bodies() if body[0] <= valley <= body[1]][0]

    def body_with(self, column):
        """The body that has this column, or None."""
        for first, last in self.bodies():
            if has_column(self.basins, first, last, column):
                return first, last
        return None

    def is_full(self, valley):
        """Whether the body that has this valley is full."""
        if not is_whole_within(valley, 0, len(self.valley_levels) - 1):
            raise InvalidValley(valley)
        first, last = self.body_of(valley)
        return self.valley_levels[valley] == lower_rim(self.basins, first, last)

    def surface(self, column):
        """The level of the water over a column, or its height if there is no water."""
        check_column(self.basins.ground, column)
        height = Ratio(self.basins.ground.heights[column])
        body = self.body_with(column)
        if body is None:
            return height
        return higher(self.valley_levels[body[0]], height)

    def depth(self, column):
        """How deep a column is under water."""
        return self.surface(column) - self.basins.ground.heights[column]

    def snapshot(self):
        """All that may change, as a tuple to which the flood, or one on an equal profile, can return."""
        return tuple(self.valley_levels), self.left_volume, self.right_volume, self.taken_volume

    def return_to(self, snapshot):
        """Become as the flood was when this snapshot was made."""
        levels, self.left_volume, self.right_volume, self.taken_volume = snapshot
        self.valley_levels = list(levels)

    def clone(self):
        """An independent copy."""
        twin = Flood(self.basins.ground)
        twin.return_to(self.snapshot())
        return twin

    def __contains__(self, x):
        return is_column(self.basins.ground, x) and self.depth(x) > 0

    def __eq__(self, other):
        return (isinstance(other, Flood) and self.basins.ground == other.basins.ground
                and self.valley_levels == other.valley_levels and self.left_volume == other.left_volume
                and self.right_volume == other.right_volume and self.taken_volume == other.taken_volume)
