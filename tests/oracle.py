"""A second, slower flood, straight from the words of the document, with Python's own fractions.

It moves levels where the program moves volumes: from one column's height to the next one.
"""

from fractions import Fraction


class Oracle:
    def __init__(self, heights, widths=None):
        self.heights = list(heights)
        self.widths = list(widths or [1] * len(heights))
        self.peaks = self.find_peaks()
        self.valleys = [(one[1] + 1, other[0] - 1) for one, other in zip(self.peaks, self.peaks[1:])]
        self.bottoms = [min(self.heights[first:last + 1]) for first, last in self.valleys]
        self.levels = [Fraction(bottom) for bottom in self.bottoms]
        self.out = [Fraction(0), Fraction(0)]
        self.taken = Fraction(0)

    def find_peaks(self):
        ground = [float("-inf"), *self.heights, float("-inf")]
        many = len(self.heights)
        return [(first, last) for first in range(many) for last in range(first, many)
                if len(set(self.heights[first:last + 1])) == 1
                and ground[first] < self.heights[first] and ground[last + 2] < self.heights[last]]

    def top(self, peak):
        return self.heights[self.peaks[peak][0]]

    def bodies(self):
        found = []
        for valley, level in enumerate(self.levels):
            if valley > 0 and min(self.levels[valley - 1], level) >= self.top(valley):
                found[-1] = (found[-1][0], valley)
            else:
                found.append((valley, valley))
        return found

    def columns(self, body):
        return range(self.valleys[body[0]][0], self.valleys[body[1]][1] + 1)

    def rims(self, body):
        return self.top(body[0]), self.top(body[1] + 1)

    def level(self, body):
        assert len(set(self.levels[body[0]:body[1] + 1])) == 1
        return self.levels[body[0]]

    def is_full(self, body):
        assert self.level(body) <= min(self.rims(body))
        return self.level(body) == min(self.rims(body))

    def depth(self, column):
        for body in self.bodies():
            if column in self.columns(body):
                return max(Fraction(0), self.level(body) - self.heights[column])
        return Fraction(0)

    def volume(self, body):
        return sum(self.depth(column) * self.widths[column] for column in self.columns(body))

    def stored(self):
        return sum((self.depth(column) * width for column, width in enumerate(self.widths)), Fraction(0))

    def places(self, column):
        """The indexes of the bodies to which water from this column goes; -1 and the number of bodies are outside."""
        bodies = self.bodies()
        for index, body in enumerate(bodies):
            if column in self.columns(body):
                return [index]
        if column < self.peaks[0][0]:
            return [-1]
        if column > self.peaks[-1][1]:
            return [len(bodies)]
        return [index for index in range(-1, len(bodies) + 1) if self.is_beside(column, index, bodies)]

    def is_beside(self, column, index, bodies):
        peak = [at for at, (first, last) in enumerate(self.peaks) if first <= column <= last][0]
        last_before = bodies[index][1] if 0 <= index < len(bodies) else (-1 if index < 0 else None)
        first_after = bodies[index][0] if 0 <= index < len(bodies) else (None if index < 0 else len(self.levels))
        return last_before == peak - 1 or first_after == peak

    def gains(self, rates):
        """What each body receives per amount, with what leaves at the left and the right end."""
        bodies = self.bodies()
        found = [Fraction(0)] * (len(bodies) + 2)

        def give(index, water):
            found[index + 1] += water
            if not 0 <= index < len(bodies) or not self.is_full(bodies[index]):
                return
            left, right = self.rims(bodies[index])
            targets = [index - 1] * (left <= right) + [index + 1] * (right <= left)
            for target in targets:
                give(target, water / len(targets))

        for column, rate in enumerate(rates):
            places = self.places(column)
            for place in places:
                if rate:
                    give(place, Fraction(rate, len(places)))
        return found[1:-1], found[0], found[-1]

    def speeds(self, gains):
        """How fast the level of each body rises per amount."""
        found = []
        for body, gain in zip(self.bodies(), gains):
            level = self.level(body)
            wide = sum(self.widths[column] for column in self.columns(body) if self.heights[column] <= level)
            found.append(Fraction(0) if self.is_full(body) else gain / wide)
        return found

    def reach(self, gains, rest):
        """How much of the rest can fall until a level gets to the height of a column or a rim."""
        span = rest
        for body, speed in zip(self.bodies(), self.speeds(gains)):
            if speed:
                level = self.level(body)
                marks = [self.heights[column] for column in self.columns(body)] + list(self.rims(body))
                span = min(span, (min(mark for mark in marks if mark > level) - level) / speed)
        return span

    def move(self, gains, left, right, span):
        """Raise the levels for a part of the amount and return the events at its end, without their moment."""
        bodies = self.bodies()
        full = [body for body in bodies if self.is_full(body)]
        for body, speed in zip(bodies, self.speeds(gains)):
            for valley in range(body[0], body[1] + 1):
                self.levels[valley] += speed * span
        self.out = [self.out[0] + left * span, self.out[1] + right * span]
        found = [("joined", *body) for body in self.bodies() if body not in bodies]
        return found + [("full", *body) for body in self.bodies() if self.is_full(body) and body not in full]

    def fall(self, rates, amount):
        """Let water fall and return the events."""
        now = Fraction(0)
        found = []
        while now < amount:
            gains, left, right = self.gains(rates)
            span = self.reach(gains, amount - now)
            now += span
            found += [(now, *event) for event in self.move(gains, left, right, span)]
        return found

    def rain(self, amount, weights=None):
        weights = weights or [1] * len(self.heights)
        return self.fall([width * weight for width, weight in zip(self.widths, weights)], Fraction(amount))

    def pour(self, column, volume):
        return self.fall([int(at == column) for at in range(len(self.heights))], Fraction(volume))

    def pump(self, column, volume):
        """Lower the level from mark to mark: the columns and the inner peaks of the part with the column."""
        rest = Fraction(volume)
        bodies = [body for body in self.bodies() if column in self.columns(body)]
        if not bodies:
            return Fraction(0)
        first, last = bodies[0]
        while rest > 0 and self.levels[first] > self.heights[column]:
            level = self.levels[first]
            cut = [peak for peak in range(first + 1, last + 1) if self.top(peak) == level]
            if cut:
                first = max([peak for peak in cut if self.peaks[peak][1] < column], default=first)
                last = min([peak - 1 for peak in cut if self.peaks[peak][0] > column], default=last)
            columns = self.columns((first, last))
            mark = max(self.heights[at] for at in columns if self.heights[at] < level)
            wide = sum(self.widths[at] for at in columns if self.heights[at] < level)
            sunk = min(rest / wide, level - mark)
            for valley in range(first, last + 1):
                self.levels[valley] -= sunk
            rest -= sunk * wide
        self.taken += Fraction(volume) - rest
        return Fraction(volume) - rest

    def dry(self, depth):
        before = self.stored()
        self.levels = [max(level - depth, Fraction(bottom)) for level, bottom in zip(self.levels, self.bottoms)]
        self.taken += before - self.stored()
        return before - self.stored()


class CascadeOracle:
    """Several such floods that give water to each other; all of them move from mark to mark together."""

    def __init__(self, profiles, links):
        self.parts = {name: Oracle(heights, widths) for name, (heights, widths) in profiles.items()}
        self.links = links

    def flows(self, rates):
        """What each part gains, and what leaves it at its ends, by name. Givers are asked for on demand."""
        found = {}

        def flow(name):
            if name not in found:
                here = list(rates[name])
                for (giver, side), (taker, column) in self.links.items():
                    if taker == name:
                        here[column] += flow(giver)[1 if side == "left" else 2]
                found[name] = self.parts[name].gains(here)
            return found[name]

        for name in self.parts:
            flow(name)
        return found

    def fall(self, rates, amount):
        """Let water fall with these rates for each name, and return the events."""
        now = Fraction(0)
        found = []
        while now < amount:
            flows = self.flows(rates)
            span = min(part.reach(flows[name][0], amount - now) for name, part in self.parts.items())
            now += span
            for name in sorted(self.parts):
                found += [(now, word, name, first, last)
                          for word, first, last in self.parts[name].move(*flows[name], span)]
        return found

    def rain(self, amount, weights=None):
        rates = {}
        for name, part in self.parts.items():
            here = (weights or {}).get(name, [1] * len(part.heights))
            rates[name] = [width * weight for width, weight in zip(part.widths, here)]
        return self.fall(rates, amount)

    def pour(self, name, column, volume):
        rates = {other: [0] * len(part.heights) for other, part in self.parts.items()}
        rates[name][column] = 1
        return self.fall(rates, volume)

    def stored(self):
        return sum(part.stored() for part in self.parts.values())

    def gone(self):
        return sum((part.out[at] for name, part in self.parts.items() for at, side in enumerate(["left", "right"])
                    if (name, side) not in self.links), Fraction(0))
