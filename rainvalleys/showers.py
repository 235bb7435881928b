"""Water that falls evenly: what the bodies receive, and what happens next."""

from rainvalleys.basins import body_runs, columns_of, level_of, lower_rim, volume_of
from rainvalleys.ratios import Ratio


class Pool:
    """A body while water falls: its volume, its volume when it is full, and what it receives per amount."""

    def __init__(self, basins, first, last, volume):
        self.first = first
        self.last = last
        self.left_rim = basins.tops[first]
        self.right_rim = basins.tops[last + 1]
        self.rim = lower_rim(basins, first, last)
        self.brim = volume_of(basins, first, last, Ratio(self.rim))
        self.volume = volume
        self.gain = Ratio(0)

    def is_brimful(self):
        """Whether the body is full."""
        return self.volume == self.brim

    def spill(self, rim, other):
        """What the body passes on over the first one of its two rims, per amount."""
        if not self.is_brimful() or rim > other:
            return Ratio(0)
        if rim == other:
            return self.gain * Ratio(1, 2)
        return self.gain

    def spill_left(self):
        """What the body passes on to the left, per amount."""
        return self.spill(self.left_rim, self.right_rim)

    def spill_right(self):
        """What the body passes on to the right, per amount."""
        return self.spill(self.right_rim, self.left_rim)

    def until_brimful(self):
        """The amount until the body gets full, or None if it does not get full."""
        if self.is_brimful() or self.gain == 0:
            return None
        return (self.brim - self.volume).over(self.gain)

    def rise(self, span):
        """Store what is received in this part of the amount, or pass it on."""
        if not self.is_brimful():
            self.volume = self.volume + self.gain * span


def meet(left, right):
    """Whether two neighbouring pools are one body now: both then stand at the peak between them."""
    if not left.is_brimful() or not right.is_brimful():
        return False
    return left.rim == left.right_rim and right.rim == right.left_rim


def grouped(pools):
    """The pools in lists, one for each body that they form now."""
    groups = []
    for at, pool in enumerate(pools):
        if at > 0 and meet(pools[at - 1], pool):
            groups[-1].append(pool)
        else:
            groups.append([pool])
    return groups


def united(basins, group):
    """The one pool that the pools of a group form."""
    if len(group) == 1:
        return group[0]
    volume = sum([pool.volume for pool in group], start=Ratio(0))
    return Pool(basins, group[0].first, group[-1].last, volume)


def changes(when, before, pools):
    """The events of a moment. A dict tells for each body just before whether it was full."""
    runs = [(pool.first, pool.last) for pool in pools]
    joined = [(when, "joined", first, last) for first, last in runs if (first, last) not in before]
    filled = [(when, "full", pool.first, pool.last) for pool in pools
              if pool.is_brimful() and not before.get((pool.first, pool.last), False)]
    return joined + filled


class Shower:
    """The state of a flood while water falls, from a moment at which something happens to the next one.

    The rates tell for each column what falls on it per amount. What arrives from elsewhere is a list of tuples of a
    column and a rate that may be a fraction.
    """

    def __init__(self, basins, levels, rates):
        self.basins = basins
        self.rates = rates
        self.arriving = []
        self.now = Ratio(0)
        self.left_gone = Ratio(0)
        self.right_gone = Ratio(0)
        self.pools = [Pool(basins, first, last, volume_of(basins, first, last, levels[first]))
                      for first, last in body_runs(basins, levels)]
        self.share_out()

    def share_out(self):
        """Find what each body receives, and what leaves at each end, per amount."""
        for pool in self.pools:
            pool.gain = self.fallen_on(pool)
        # A full body never passes water back to the side from which it gets water from another one: both would
        # stand at the peak between them and be one body. So one way to the right and one to the left are enough.
        carried = Ratio(0)
        for pool in self.pools:
            pool.gain = pool.gain + carried
            carried = pool.spill_right()
        self.right_rate = carried + self.fallen_right()
        carried = Ratio(0)
        for pool in self.pools[::-1]:
            pool.gain = pool.gain + carried
            carried = pool.spill_left()
        self.left_rate = carried + self.fallen_left()

    def let_arrive(self, arriving):
        """Let other water arrive from elsewhere from now on."""
        self.arriving = arriving
        self.share_out()

    def fallen_between(self, first, last):
        """What falls on the columns from the first to the last one, per amount."""
        total = Ratio(sum(self.rates[first:last + 1]))
        for column, rate in self.arriving:
            if first <= column <= last:
                total = total + rate
        return total

    def half_of_peak(self, peak):
        """What a peak that is not inside a body gives to each of its sides, per amount."""
        first, last = self.basins.summits[peak]
        return self.fallen_between(first, last) * Ratio(1, 2)

    def fallen_on(self, pool):
        """What a body receives per amount without what other bodies pass on."""
        first, last = columns_of(self.basins, pool.first, pool.last)
        left = self.half_of_peak(pool.first)
        right = self.half_of_peak(pool.last + 1)
        return left + self.fallen_between(first, last) + right

    def fallen_left(self):
        """What falls outside the bodies and leaves at the left end, per amount."""
        first, last = self.basins.summits[0]
        return self.fallen_between(0, first - 1) + self.half_of_peak(0)

    def fallen_right(self):
        """What falls outside the bodies and leaves at the right end, per amount."""
        peak = len(self.basins.summits) - 1
        first, last = self.basins.summits[peak]
        return self.fallen_between(last + 1, len(self.rates) - 1) + self.half_of_peak(peak)

    def until_change(self):
        """The amount until the next body gets full, or None if nothing happens any more."""
        least = None
        for pool in self.pools:
            span = pool.until_brimful()
            if span is not None and (least is None or span < least):
                least = span
        return least

    def advance(self, span):
        """Let a part of the amount fall, at most until the next change, and return the events at its end."""
        before = {(pool.first, pool.last): pool.is_brimful() for pool in self.pools}
        for pool in self.pools:
            pool.rise(span)
        self.now = self.now + span
        self.left_gone = self.left_gone + self.left_rate * span
        self.right_gone = self.right_gone + self.right_rate * span
        self.pools = [united(self.basins, group) for group in grouped(self.pools)]
        found = changes(self.now, before, self.pools)
        if found:
            self.share_out()
        return found

    def next_span(self, end):
        """How much can fall until the next change, but not beyond the end."""
        span = self.until_change()
        rest = end - self.now
        if span is None or span > rest:
            return rest
        return span

    def fall(self, end):
        """Let all of this amount fall and return the events."""
        found = []
        while self.now < end:
            found.extend(self.advance(self.next_span(end)))
        return found

    def present_levels(self):
        """The level of each valley."""
        found = []
        for pool in self.pools:
            level = level_of(self.basins, pool.first, pool.last, pool.volume)
            found.extend([level] * (pool.last - pool.first + 1))
        return found


def rain_rates(profile, weights):
    """What falls on each column per amount of rain with these weights."""
    return [width * weight for width, weight in zip(profile.widths, weights)]
