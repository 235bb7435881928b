"""Cascades: profiles with floods that give water to each other."""

from rainvalleys.checks import are_weights, check_column, checked_amount, is_column
from rainvalleys.errors import InvalidCascade, InvalidWeights, UnknownName
from rainvalleys.floods import Flood
from rainvalleys.profiles import Profile
from rainvalleys.ratios import Ratio
from rainvalleys.showers import rain_rates
from rainvalleys.streams import Streams
from rainvalleys.words import is_name

MOST_PROFILES = 8
SIDES = ("left", "right")


def sorted_names(names):
    """The names in alphabetical order."""
    return sorted([str(name) for name in names])


def are_named_profiles(value):
    """Whether the value is a dict of some names with a profile each."""
    if not isinstance(value, dict) or not 1 <= len(value) <= MOST_PROFILES:
        return False
    for name in value:
        if not isinstance(name, str) or not is_name(name) or not isinstance(value[name], Profile):
            return False
    return True


def is_pair(value):
    """Whether the value is a tuple of a text and one more item."""
    return isinstance(value, tuple) and len(value) == 2 and isinstance(value[0], str)


def is_link(profiles, key, target):
    """Whether the target is a column to which water can leave from the side that the key names."""
    if not is_pair(key) or not is_pair(target):
        return False
    name, side = key
    other, column = target
    if name not in profiles or side not in SIDES:
        return False
    return other in profiles and other != name and is_column(profiles[other], column)


def are_links(profiles, value):
    """Whether the value is a dict of links between these profiles."""
    return isinstance(value, dict) and all([is_link(profiles, key, value[key]) for key in value])


def takers(links, name):
    """The names of the profiles to which this one is linked."""
    return [links[key][0] for key in links if key[0] == name]


def leads_back(links, name):
    """Whether a chain of links leads from this name back to it."""
    reached = takers(links, name)
    at = 0
    while at < len(reached):
        for other in takers(links, reached[at]):
            if other not in reached:
                reached.append(other)
        at += 1
    return name in reached


def check_circles(profiles, links):
    """Raise the error for the first name from which a chain of links leads back to it."""
    for name in sorted_names(profiles):
        if leads_back(links, name):
            raise InvalidCascade(name)


def flow_order(profiles, links):
    """The names, each one before those that it gives water to, otherwise in alphabetical order."""
    rest = sorted_names(profiles)
    found = []
    while rest:
        waiting = [other for name in rest for other in takers(links, name)]
        ready = [name for name in rest if name not in waiting]
        found.append(ready[0])
        rest.remove(ready[0])
    return found


def sources_of(order, links, name):
    """From where water runs to this name: tuples of a giver, its side and the column on which it falls."""
    keys = [(giver, side) for giver in order for side in SIDES if (giver, side) in links]
    return [(giver, side, links[giver, side][1]) for giver, side in keys if links[giver, side][0] == name]


class Cascade:
    """Profiles with floods by name, and links by which water that leaves one of them falls on another one."""

    def __init__(self, profiles, links):
        if not are_named_profiles(profiles) or not are_links(profiles, links):
            raise InvalidCascade(None)
        check_circles(profiles, links)
        self.links = {key: links[key] for key in links}
        self.order = flow_order(profiles, links)
        self.floods = {name: Flood(profiles[name]) for name in self.order}

    def check_name(self, name):
        """Raise the error for a value that is no name of a profile."""
        if not isinstance(name, str) or name not in self.floods:
            raise UnknownName(name)

    def checked_rates(self, weights):
        """What falls on each column of each profile per amount of rain; None means that all weights are 1."""
        if weights is None:
            weights = {}
        if not isinstance(weights, dict) or not all([name in self.floods for name in weights]):
            raise InvalidWeights(None)
        for name in sorted_names(weights):
            if not are_weights(self.floods[name].profile, weights[name]):
                raise InvalidWeights(name)
        found = {}
        for name in self.order:
            profile = self.floods[name].profile
            found[name] = rain_rates(profile, weights.get(name, [1] * len(profile)))
        return found

    def rain(self, amount, *, weights=None):
        """Let rain fall on all profiles and return the events."""
        end = checked_amount(amount)
        return self.receive(self.checked_rates(weights), end)

    def pour(self, name, column, volume):
        """Let this volume fall on one column of a profile and return the events."""
        self.check_name(name)
        check_column(self.floods[name].profile, column)
        end = checked_amount(volume)
        rates = {other: [0] * len(self.floods[other].profile) for other in self.order}
        rates[name][column] = 1
        return self.receive(rates, end)

    def receive(self, rates, end):
        """Let water fall with these rates for the columns of each profile and return the events."""
        showers = {name: self.floods[name].shower(rates[name]) for name in self.order}
        sources = {name: sources_of(self.order, self.links, name) for name in self.order}
        found = Streams(showers, sources).fall(end)
        for name in self.order:
            self.floods[name].settle(showers[name])
        return found

    def flood(self, name):
        """A copy of the flood of a profile."""
        self.check_name(name)
        return self.floods[name].clone()

    def names(self):
        """The names, each one before those that it gives water to."""
        return list(self.order)

    @property
    def stored(self):
        """The stored volume of all profiles."""
        return sum([self.floods[name].stored for name in self.order], start=Ratio(0))

    @property
    def gone(self):
        """The volume that left at sides that are not linked."""
        total = Ratio(0)
        for name in self.order:
            if (name, "left") not in self.links:
                total = total + self.floods[name].left
            if (name, "right") not in self.links:
                total = total + self.floods[name].right
        return total

    def clone(self):
        """An independent copy."""
        twin = Cascade({name: self.floods[name].profile for name in self.order}, self.links)
        for name in self.order:
            twin.floods[name].return_to(self.floods[name].snapshot())
        return twin

    def __eq__(self, other):
        return isinstance(other, Cascade) and self.links == other.links and self.floods == other.floods
