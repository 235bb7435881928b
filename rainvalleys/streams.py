"""Water that falls evenly on several profiles and runs from one to another."""

from rainvalleys.ratios import Ratio


def rate_at(shower, side):
    """What leaves at this side per amount."""
    if side == "left":
        return shower.left_rate
    return shower.right_rate


def due_of(shower):
    """The moment of the next change, or None if nothing happens any more."""
    span = shower.until_change()
    if span is None:
        return None
    return shower.now + span


def follow(shower, when):
    """Let water fall until this moment, at most the next change, and return the events there."""
    return shower.advance(when - shower.now)


class Streams:
    """Showers by the names of their profiles, in an order in which each one comes before those that it gives to.

    The sources of a name are tuples of a giver, its side and the column on which the water falls. A shower is moved
    on only at its own changes and when other water begins to arrive: what happens far away does not concern it.
    """

    def __init__(self, showers, sources):
        self.showers = showers
        self.sources = sources
        self.dues = {}
        for name in self.showers:
            self.direct(name, Ratio(0))
            self.dues[name] = due_of(self.showers[name])

    def direct(self, name, when):
        """Let arrive what the givers pass on from this moment on, and return whether this is new."""
        shower = self.showers[name]
        arriving = [(column, rate_at(self.showers[giver], side)) for giver, side, column in self.sources[name]]
        if arriving == shower.arriving:
            return False
        follow(shower, when)
        shower.let_arrive(arriving)
        return True

    def move(self, name, when):
        """Move one shower on to this moment, if this concerns it, and return the events there."""
        found = []
        if self.dues[name] == when:
            found = follow(self.showers[name], when)
        if self.direct(name, when) or found:
            self.dues[name] = due_of(self.showers[name])
        return found

    def next_moment(self, end):
        """The moment of the next change anywhere, but not beyond the end."""
        least = end
        for name in self.showers:
            due = self.dues[name]
            if due is not None and due < least:
                least = due
        return least

    def changes_at(self, when):
        """Move on to this moment and return the events there, ordered by the names."""
        found = {}
        for name in self.showers:
            found[name] = [(when, word, name, first, last) for now, word, first, last in self.move(name, when)]
        return [event for name in sorted([str(name) for name in found]) for event in found[name]]

    def fall(self, end):
        """Let all of this amount fall and return the events."""
        found = []
        now = Ratio(0)
        while now < end:
            now = self.next_moment(end)
            found.extend(self.changes_at(now))
        for name in self.showers:
            follow(self.showers[name], end)
        return found
