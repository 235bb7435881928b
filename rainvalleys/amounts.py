"""Even rain on a dry profile: its events, its end, and the amounts that lead to depths and volumes."""

from rainvalleys.basins import Basins, columns_of
from rainvalleys.checks import check_column, checked_amount, is_amount, is_column
from rainvalleys.errors import InvalidObservations
from rainvalleys.floods import Flood
from rainvalleys.ratios import Ratio
from rainvalleys.showers import Shower
from rainvalleys.volumes import volume_below


class Filling:
    """How a body gets full in even rain: its columns, its lower rim, and the parts in which it grows evenly.

    A part is a tuple of the amount and the volume at its start, the gain, and the volume at its end.
    """

    def __init__(self, profile, first_column, last_column, rim):
        self.ground = profile
        self.first_column = first_column
        self.last_column = last_column
        self.rim = rim
        self.parts = []

    def covers(self, column):
        """Whether the body has this column."""
        return self.first_column <= column <= self.last_column

    def add_part(self, start, volume, gain, span):
        """Note how the body grows for a part of the amount."""
        self.parts.append((start, volume, gain, volume + gain * span))

    def amount_for(self, level):
        """The amount at which the body has this level, which is not above its lower rim."""
        wanted = volume_below(self.ground, self.first_column, self.last_column, level)
        for start, volume, gain, filled in self.parts:
            if wanted <= filled:
                return start + (wanted - volume).over(gain)
        return None


def even_shower(profile):
    """Rain with the weights 1 that begins to fall on the dry profile."""
    basins = Basins(profile)
    return Shower(basins, basins.floors, list(profile.widths))


def fillings(profile):
    """How each body gets full in even rain, the earlier bodies first."""
    shower = even_shower(profile)
    found = {}
    span = shower.until_change()
    while span is not None:
        for pool in shower.pools:
            if pool.is_brimful():
                continue
            body = (pool.first, pool.last)
            if body not in found:
                first, last = columns_of(shower.basins, pool.first, pool.last)
                found[body] = Filling(profile, first, last, pool.rim)
            found[body].add_part(shower.now, pool.volume, pool.gain, span)
        shower.advance(span)
        span = shower.until_change()
    return list(found.values())


def events(profile):
    """Yield all events in order, with the amounts."""
    shower = even_shower(profile)
    span = shower.until_change()
    while span is not None:
        yield from shower.advance(span)
        span = shower.until_change()


def flood_after(profile, amount):
    """The flood after this amount."""
    flood = Flood(profile)
    flood.rain(amount)
    return flood


def end_surfaces(profile):
    """The heights to which the surfaces of the columns rise in the end."""
    heights = profile.heights
    many = len(heights)
    left = [max([int(height) for height in heights[:column + 1]]) for column in range(many)]
    right = [max([int(height) for height in heights[column:]]) for column in range(many)]
    return [min(int(one), other) for one, other in zip(left, right)]


def end_volume(profile):
    """The volume that is stored in the end."""
    depths = [surface - height for surface, height in zip(end_surfaces(profile), profile.heights)]
    return Ratio(sum([width * depth for width, depth in zip(profile.widths, depths)]))


def end_amount(profile):
    """The least amount after which the stored volume does not grow any more."""
    last = Ratio(0)
    for event in events(profile):
        last = event[0]
    return last


def first_reaching(ways, profile, column, depth):
    """The least amount after which the depth is at least this one, or None."""
    if depth == 0:
        return Ratio(0)
    level = depth + profile.heights[column]
    for filling in ways:
        if filling.covers(column) and level <= filling.rim:
            return filling.amount_for(level)
    return None


def last_keeping(ways, profile, column, depth):
    """The greatest amount after which the depth is at most this one, or None if it always is."""
    level = depth + profile.heights[column]
    for filling in ways:
        if filling.covers(column) and level < filling.rim:
            return filling.amount_for(level)
    return None


def amount_to_reach(profile, column, depth):
    """The least amount after which the depth of the column is at least this one, or None."""
    check_column(profile, column)
    wanted = checked_amount(depth)
    return first_reaching(fillings(profile), profile, column, wanted)


def amount_to_exceed(profile, column, depth):
    """The greatest amount after which the depth of the column is at most this one, or None if it always is."""
    check_column(profile, column)
    allowed = checked_amount(depth)
    return last_keeping(fillings(profile), profile, column, allowed)


def growth(shower):
    """How much the stored volume grows per amount."""
    return sum([pool.gain for pool in shower.pools if not pool.is_brimful()], start=Ratio(0))


def amount_to_store(profile, volume):
    """The least amount after which at least this volume is stored, or None."""
    rest = checked_amount(volume)
    if rest == 0:
        return Ratio(0)
    shower = even_shower(profile)
    span = shower.until_change()
    while span is not None:
        gain = growth(shower)
        if rest <= gain * span:
            return shower.now + rest.over(gain)
        rest = rest - gain * span
        shower.advance(span)
        span = shower.until_change()
    return None


def is_observation(profile, value):
    """Whether the value is a tuple of a column and a depth."""
    if not isinstance(value, tuple) or len(value) != 2:
        return False
    return is_column(profile, value[0]) and is_amount(value[1])


def check_observations(profile, observations):
    """Raise the error for a value that is no list of observations."""
    if not isinstance(observations, list):
        raise InvalidObservations(None)
    for index, value in enumerate(observations):
        if not is_observation(profile, value):
            raise InvalidObservations(index)


def fitting_amounts(profile, observations):
    """The least and the greatest amount that lead to all observed depths, or None if no amount does."""
    check_observations(profile, observations)
    ways = fillings(profile)
    least = Ratio(0)
    greatest = None
    for column, depth in observations:
        first = first_reaching(ways, profile, column, checked_amount(depth))
        last = last_keeping(ways, profile, column, checked_amount(depth))
        if first is None:
            return None
        if first > least:
            least = first
        if last is not None and (greatest is None or last < greatest):
            greatest = last
    if greatest is not None and greatest < least:
        return None
    return least, greatest
