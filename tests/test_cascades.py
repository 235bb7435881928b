import itertools
import random
import unittest
from fractions import Fraction

from cases import (EDGES, Case, content, edge_profiles, fraction, fractions, no_amounts, no_columns, random_amount,
                   random_profiles, random_weights)
from oracle import CascadeOracle
from rainvalleys.cascades import Cascade
from rainvalleys.errors import InvalidCascade, InvalidColumn, InvalidNumber, InvalidWeights, UnknownName
from rainvalleys.floods import Flood
from rainvalleys.profiles import Profile
from rainvalleys.ratios import Ratio
from samples import HUGE, Thing, no_integers, no_rows

HIGH, LOW = Profile([2, 0, 3]), Profile([5, 0, 5])
SIDES = ("left", "right")
NAMES = ("a", "b", "ca", "cb", "dddddddd", "x", "y", "zz")


def shown(found):
    return [(str(when), word, name, first, last) for when, word, name, first, last in found]


def exact(found):
    return [(fraction(when), word, name, first, last) for when, word, name, first, last in found]


def state(cascade):
    """All that a cascade tells about itself."""
    return [cascade.names(), {name: content(cascade.flood(name)) for name in cascade.names()},
            str(cascade.stored), str(cascade.gone)]


def oracle_for(profiles, links):
    return CascadeOracle({name: (profile.heights, profile.widths) for name, profile in profiles.items()}, links)


def random_links(chance, profiles, chance_of_a_link=0.6):
    """Links that lead from each name only to ones that stand behind it in an order drawn by chance."""
    names = list(profiles)
    chance.shuffle(names)
    found = {}
    for at, name in enumerate(names[:-1]):
        for side in SIDES:
            if chance.random() < chance_of_a_link:
                other = chance.choice(names[at + 1:])
                found[name, side] = (other, chance.randrange(len(profiles[other])))
    items = list(found.items())
    chance.shuffle(items)
    return dict(items)


def random_cascades(seed, many, columns=8, most=4):
    chance = random.Random(seed)
    pool = random_profiles(seed, 3 * many + 20, columns) + [profile for name, profile in edge_profiles()]
    for _ in range(many):
        names = chance.sample(NAMES, chance.randint(1, most))
        profiles = {name: chance.choice(pool) for name in names}
        yield chance, profiles, random_links(chance, profiles)


def some_weights(chance, profiles):
    names = [name for name in profiles if chance.random() < 0.5]
    return {name: random_weights(chance, profiles[name]) for name in names}


def example():
    """A cascade in which something has happened already."""
    cascade = Cascade({"high": HIGH, "low": LOW}, {("high", "left"): ("low", 1)})
    cascade.rain(Ratio(4, 3))
    return cascade


class ExampleTest(Case):
    def test_example_of_the_document(self):
        cascade = Cascade({"high": HIGH, "low": LOW}, {("high", "left"): ("low", 1)})
        self.assertEqual(shown(cascade.rain(2)), [("1", "full", "high", 0, 0), ("14/9", "full", "low", 0, 0)])
        self.assertEqual(cascade.names(), ["high", "low"])
        self.check_ratio(cascade.stored, "7")
        self.check_ratio(cascade.gone, "5")
        self.check_ratio(cascade.flood("high").left, "3")

    def test_kinds_of_values(self):
        cascade = Cascade({"high": HIGH, "low": LOW}, {("high", "left"): ("low", 1)})
        found = cascade.rain(2)
        self.assertIs(found.__class__, list)
        for event in found:
            self.assertIs(event.__class__, tuple)
            self.assertEqual([part.__class__ for part in event], [Ratio, str, str, int, int])
        self.assertEqual(cascade.pour("low", 1, 1), [])
        self.assertIs(cascade.names().__class__, list)
        self.assertIs(cascade.flood("low").__class__, Flood)

    def test_a_dry_cascade(self):
        cascade = Cascade({"high": HIGH, "low": LOW}, {})
        self.assertEqual([cascade.flood("high"), cascade.flood("low")], [Flood(HIGH), Flood(LOW)])
        self.check_ratio(cascade.stored, "0")
        self.check_ratio(cascade.gone, "0")

    def test_arguments_by_name(self):
        cascade = Cascade(links={("high", "left"): ("low", 1)}, profiles={"high": HIGH, "low": LOW})
        self.assertEqual(cascade.rain(weights={"low": [0, 0, 0]}, amount=Ratio(1, 2)), [])
        self.assertEqual(cascade.pour(volume=3, column=1, name="low"), [])
        self.check_ratio(cascade.flood(name="low").stored, "13/4")

    def test_stored_and_gone_are_properties(self):
        for name in ("stored", "gone"):
            self.assertIsInstance(Cascade.__dict__[name], property)
            with self.assertRaises(AttributeError):
                setattr(example(), name, Ratio(1))
        for name in ("__init__", "rain", "pour", "flood", "names", "clone", "__eq__"):
            self.assertIn(name, Cascade.__dict__)


class LinksTest(Case):
    """Where water goes, on cascades that can be followed by hand."""

    def test_a_chain(self):
        cascade = Cascade({"a": Profile([1, 0, 2]), "b": Profile([3, 0, 2]), "c": Profile([9, 0, 9])},
                          {("a", "left"): ("b", 1), ("b", "right"): ("c", 1)})
        self.assertEqual(shown(cascade.pour("a", 1, 10)),
                         [("1", "full", "a", 0, 0), ("3", "full", "b", 0, 0)])
        self.assertEqual([str(cascade.flood(name).stored) for name in "abc"], ["1", "2", "7"])
        self.assertEqual([str(cascade.flood("a").left), str(cascade.flood("b").right)], ["9", "7"])
        self.assertEqual(shown(cascade.pour("a", 1, 10)), [("2", "full", "c", 0, 0)])
        self.check_ratio(cascade.stored, "12")
        self.check_ratio(cascade.gone, "8")

    def test_both_sides_to_one_column_and_to_two_columns(self):
        for columns, levels in [((1, 1), ["8", "0"]), ((1, 3), ["4", "4"]), ((0, 4), ["2", "2"]), ((2, 2), ["4", "4"])]:
            cascade = Cascade({"a": Profile([7]), "b": Profile([9, 0, 9, 0, 9])},
                              {("a", "left"): ("b", columns[0]), ("a", "right"): ("b", columns[1])})
            self.assertEqual(cascade.pour("a", 0, 8), [])
            self.assertEqual([str(level) for level in cascade.flood("b").levels()], levels)
            self.assertEqual([str(cascade.flood("a").left), str(cascade.flood("a").right)], ["4", "4"])

    def test_several_givers_of_one_taker(self):
        cascade = Cascade({"t": Profile([9, 0, 9]), "b": Profile([1, 2]), "c": Profile([5])},
                          {("b", "left"): ("t", 1), ("c", "right"): ("t", 1), ("c", "left"): ("t", 0)})
        cascade.rain(1, weights={"t": [0, 0, 0]})
        self.assertEqual([str(cascade.flood("t").stored), str(cascade.flood("t").left)], ["9/4", "1/4"])
        self.check_ratio(cascade.gone, "3/4")

    def test_water_that_arrives_outside_the_peaks_and_on_peaks(self):
        for column, stored, left, right in [(0, "0", "4", "0"), (1, "2", "2", "0"), (2, "4", "0", "0"),
                                            (3, "2", "0", "2"), (4, "0", "0", "4")]:
            cascade = Cascade({"a": Profile([1, 2]), "b": Profile([0, 8, 0, 8, 0])}, {("a", "left"): ("b", column)})
            cascade.pour("a", 0, 4)
            flood = cascade.flood("b")
            self.assertEqual([str(flood.stored), str(flood.left), str(flood.right)], [stored, left, right])

    def test_water_arrives_at_the_same_moment(self):
        """The giver gets full after 2, when the taker has got 6 of 9; then the taker gets 4 in place of 3."""
        cascade = Cascade({"giver": Profile([2, 0, 9]), "taker": Profile([9, 0, 9])}, {("giver", "left"): ("taker", 1)})
        weights = {"giver": [0, 1, 0], "taker": [0, 3, 0]}
        self.assertEqual(shown(cascade.rain(10, weights=weights)),
                         [("2", "full", "giver", 0, 0), ("11/4", "full", "taker", 0, 0)])

    def test_events_of_the_taker_before_and_behind_those_of_the_giver(self):
        cascade = Cascade({"giver": Profile([2, 0, 9]), "taker": Profile([9, 0, 2, 0, 9])},
                          {("giver", "left"): ("taker", 1)})
        weights = {"giver": [0, 1, 0], "taker": [0, 4, 0, 0, 0]}
        self.assertEqual(shown(cascade.rain(10, weights=weights)),
                         [("1/2", "full", "taker", 0, 0), ("1", "joined", "taker", 0, 1),
                          ("2", "full", "giver", 0, 0), ("27/5", "full", "taker", 0, 1)])

    def test_one_moment_by_name_and_then_as_in_a_flood(self):
        pit = Profile([9, 0, 1, 0, 4, 3, 5])
        names = {"b": pit, "a": pit, "c": Profile([9, 0, 1, 0, 9])}
        weights = {name: [0, 1, 0, 1, 0, 1, 0] for name in "ab"}
        weights["c"] = (0, 1, 0, 1, 0)
        found = shown(Cascade(names, {}).rain(1, weights=weights))
        self.assertEqual(found, [("1", word, name, first, last) for name in "ab" for word, first, last in
                                 [("joined", 0, 1), ("full", 2, 2)]] + [("1", "joined", "c", 0, 1)])

    def test_a_giver_that_comes_last_in_the_alphabet(self):
        cascade = Cascade({"b": Profile([1, 0, 9]), "a": Profile([9, 0, 9])}, {("b", "left"): ("a", 1)})
        self.assertEqual(cascade.names(), ["b", "a"])
        self.assertEqual(shown(cascade.rain(1, weights={"b": [0, 1, 0], "a": [0, 9, 0]})),
                         [("1", "full", "a", 0, 0), ("1", "full", "b", 0, 0)])

    def test_the_same_profile_by_several_names(self):
        cascade = Cascade({"a": LOW, "b": LOW}, {("a", "right"): ("b", 0)})
        cascade.pour("a", 1, 7)
        self.assertEqual([str(cascade.flood(name).stored) for name in "ab"], ["5", "1/2"])
        self.check_ratio(cascade.gone, "3/2")
        self.assertEqual(cascade.flood("a").profile, LOW)


class NamesTest(Case):
    def test_givers_before_takers_and_otherwise_by_the_alphabet(self):
        ground = Profile([1, 2])
        for pairs, expected in [([], ["a", "b", "c", "d"]), (["da"], ["b", "c", "d", "a"]),
                                (["dc", "cb", "ba"], ["d", "c", "b", "a"]), (["ba", "bc"], ["b", "a", "c", "d"]),
                                (["ca"], ["b", "c", "a", "d"]), (["ab", "cb"], ["a", "c", "b", "d"]),
                                (["cd", "da"], ["b", "c", "d", "a"]), (["bd", "ad", "da"], None)]:
            links = {}
            for at, (giver, taker) in enumerate(pairs):
                side = "right" if (giver, "left") in links else "left"
                links[giver, side] = (taker, 0)
            for names in itertools.permutations("abcd"):
                profiles = {name: ground for name in names}
                if expected is None:
                    self.check_error(InvalidCascade, "name", "a", Cascade, profiles, links)
                else:
                    self.assertEqual(Cascade(profiles, links).names(), expected)

    def test_drawn_links(self):
        for chance, profiles, links in random_cascades(1, 150, columns=2, most=8):
            order = Cascade(profiles, links).names()
            self.assertEqual(sorted(order), sorted(profiles))
            for at, name in enumerate(order):
                givers = {giver for (giver, side), (taker, column) in links.items() if taker == name}
                self.assertTrue(givers <= set(order[:at]))
                ready = [other for other in order[at:]
                         if {giver for (giver, side), (taker, column) in links.items() if taker == other}
                         <= set(order[:at])]
                self.assertEqual(name, min(ready))

    def test_the_returned_list_can_be_changed(self):
        cascade = example()
        before = state(cascade)
        cascade.names().reverse()
        cascade.names().clear()
        self.assertEqual(state(cascade), before)


class OracleTest(Case):
    """Each state and each event as a second program finds it, in which all profiles move from mark to mark."""

    def check_same(self, cascade, oracle):
        for name, part in oracle.parts.items():
            flood = cascade.flood(name)
            self.assertEqual(fractions(flood.levels()), part.levels)
            self.assertEqual([flood.bodies(), fractions([flood.left, flood.right])], [part.bodies(), part.out])
        self.assertEqual(fractions([cascade.stored, cascade.gone]), [oracle.stored(), oracle.gone()])

    def check_rain_and_pouring(self, chance, profiles, links, rounds=2):
        cascade, oracle = Cascade(profiles, links), oracle_for(profiles, links)
        for _ in range(rounds):
            amount, weights = random_amount(chance), some_weights(chance, profiles)
            self.assertEqual(exact(cascade.rain(amount, weights=weights)), oracle.rain(fraction(amount), weights))
            self.check_same(cascade, oracle)
            name, volume = chance.choice(list(profiles)), random_amount(chance) * 5
            column = chance.randrange(len(profiles[name]))
            self.assertEqual(exact(cascade.pour(name, column, volume)), oracle.pour(name, column, fraction(volume)))
            self.check_same(cascade, oracle)
        self.assertEqual(exact(cascade.rain(20)), oracle.rain(Fraction(20)))
        self.check_same(cascade, oracle)

    def test_small_cascades(self):
        for chance, profiles, links in random_cascades(2, 150, columns=7):
            self.check_rain_and_pouring(chance, profiles, links)

    def test_the_edges_of_single_floods(self):
        chance = random.Random(3)
        edges = edge_profiles()
        for name, profile in edges:
            profiles = {"a": profile, "b": chance.choice(edges)[1], "c": chance.choice(edges)[1]}
            for giver, taker in ("ab", "ba"):
                links = {(giver, side): (taker, chance.randrange(len(profiles[taker]))) for side in SIDES}
                self.check_rain_and_pouring(chance, profiles, {**links, (taker, "left"): ("c", 0)}, rounds=1)

    def test_many_profiles(self):
        for chance, profiles, links in random_cascades(4, 10, columns=6, most=8):
            self.check_rain_and_pouring(chance, profiles, links)

    def test_without_links_each_profile_has_the_flood_and_the_events_of_a_single_one(self):
        for chance, profiles, links in random_cascades(5, 40):
            cascade, floods = Cascade(profiles, {}), {name: Flood(profile) for name, profile in profiles.items()}
            for _ in range(3):
                amount, weights = random_amount(chance), some_weights(chance, profiles)
                found = cascade.rain(amount, weights=weights)
                for name, flood in floods.items():
                    expected = flood.rain(amount, weights=weights.get(name))
                    self.assertEqual([(when, word, *valleys) for when, word, other, *valleys in found if other == name],
                                     expected)
                    self.assertEqual(cascade.flood(name), flood)
                keys = [(fraction(when), name) for when, word, name, first, last in found]
                self.assertEqual(keys, sorted(keys))
            self.assertEqual(cascade.stored, sum([flood.stored for flood in floods.values()], Ratio(0)))
            self.assertEqual(cascade.gone, sum([flood.left + flood.right for flood in floods.values()], Ratio(0)))


class GuaranteesTest(Case):
    def test_water_is_kept(self):
        for chance, profiles, links in random_cascades(6, 200):
            cascade, total = Cascade(profiles, links), Fraction(0)
            for _ in range(4):
                name = chance.choice(list(profiles))
                amount, weights = random_amount(chance), some_weights(chance, profiles)
                cascade.rain(amount, weights=weights)
                cascade.pour(name, chance.randrange(len(profiles[name])), amount * 3)
                for other, profile in profiles.items():
                    here = weights.get(other, [1] * len(profile))
                    total += fraction(amount) * sum(a * b for a, b in zip(profile.widths, here))
                total += fraction(amount) * 3
                self.assertEqual(fraction(cascade.stored) + fraction(cascade.gone), total)

    def test_rain_in_parts(self):
        for chance, profiles, links in random_cascades(7, 60):
            whole, divided = Cascade(profiles, links), Cascade(profiles, links)
            weights = some_weights(chance, profiles)
            parts = [random_amount(chance) for _ in range(4)] + [15]
            expected = whole.rain(sum(parts, Ratio(0)), weights=weights)
            # Parts that end at events, too.
            moments = [when for when, *event in expected][::2]
            ends = sorted({fraction(when) for when in moments} | set(itertools.accumulate(fractions(parts))))
            found, fallen = [], Fraction(0)
            for end in ends:
                part = Ratio((end - fallen).numerator, (end - fallen).denominator)
                found += [(fraction(when) + fallen, *event) for when, *event in divided.rain(part, weights=weights)]
                fallen = end
            self.assertEqual(found, [(fraction(when), *event) for when, *event in expected])
            self.assertEqual([divided, state(divided)], [whole, state(whole)])

    def test_only_the_water_on_each_column_counts(self):
        chance = random.Random(8)
        for _ in range(40):
            profiles = {name: Profile(chance.sample(range(20), chance.randint(1, 8))) for name in "abc"}
            links = random_links(chance, profiles)
            one, other = Cascade(profiles, links), Cascade(profiles, links)
            steps = [(name, column) for name in profiles for column in range(len(profiles[name]))]
            one.rain(Ratio(7, 2))
            chance.shuffle(steps)
            for name, column in steps:
                other.pour(name, column, Ratio(7, 2))
            self.assertEqual([other, state(other)], [one, state(one)])

    def test_a_profile_without_givers_is_like_a_single_one(self):
        for chance, profiles, links in random_cascades(9, 40):
            cascade = Cascade(profiles, links)
            cascade.rain(Ratio(9, 4))
            takers = {taker for taker, column in links.values()}
            for name in set(profiles) - takers:
                flood = Flood(profiles[name])
                flood.rain(Ratio(9, 4))
                self.assertEqual(cascade.flood(name), flood)


class InvalidCascadeTest(Case):
    def check_refused(self, name, profiles, links):
        self.check_error(InvalidCascade, "name", name, Cascade, profiles, links)

    def test_profiles_that_are_no_such_dict(self):
        for value in [None, True, 0, "", "a", [], [("a", LOW)], ("a",), {"a"}, Thing(), LOW, Ratio(1), {}]:
            for links in ({}, None, {("a", "left"): ("a", 0)}):
                self.check_refused(None, value, links)

    def test_the_number_of_profiles(self):
        self.assertEqual(len(Cascade({name: LOW for name in "abcdefgh"}, {}).names()), 8)
        self.assertEqual(Cascade({"a": LOW}, {}).names(), ["a"])
        self.check_refused(None, {name: LOW for name in "abcdefghi"}, {})

    def test_names(self):
        for name in ["a", "z", "abcdefgh", "left", "rain"]:
            self.assertEqual(Cascade({name: LOW}, {}).names(), [name])
        for name in ["", "abcdefghi", "A", "aB", "a1", "1", "a b", " a", "a ", "a_b", "a-b", "a\n", "\n", "\t",
                     "\u00e4", "\u00df", "\u0101", None, True, 0, 1, b"a", ("a",), ("a", "left"), 10 ** 30]:
            self.check_refused(None, {name: LOW}, {})
            self.check_refused(None, {"a": LOW, name: LOW}, {})

    def test_values_that_are_no_profiles(self):
        for value in [None, True, 1, "3 0 3", [3, 0, 3], (3,), {}, Flood(LOW), Profile, Thing(), Ratio(1)]:
            self.check_refused(None, {"a": value}, {})
            self.check_refused(None, {"a": LOW, "b": value}, {})

    def test_links_that_are_no_dict(self):
        for value in [None, True, 0, "", [], [(("a", "left"), ("b", 0))], (), {("a", "left")}, Thing(), Ratio(1)]:
            self.check_refused(None, {"a": LOW, "b": LOW}, value)

    def test_keys_of_links(self):
        for key in [None, True, 0, "a", "left", "al", (), ("a",), ("a", "left", 0), ("c", "left"), ("a", "Left"),
                    ("a", "l"), ("a", ""), ("a", None), ("a", 0), ("a", True), ("left", "a"), (None, "left"),
                    (0, "left"), (True, "right"), (("a",), "left"), ("a", ("left",)), ("", "left"), ("A", "left"),
                    ("a", "left "), (b"a", "left"), ("a", b"left"), ("a", "both")]:
            self.check_refused(None, {"a": LOW, "b": LOW}, {key: ("b", 0)})
            self.check_refused(None, {"a": LOW, "b": LOW}, {("a", "right"): ("b", 0), key: ("b", 0)})

    def test_values_of_links(self):
        wrong = [None, True, 0, "b", "b0", (), ("b",), ("b", 0, 0), ["b", 0], ("c", 0), ("", 0), (None, 0), (0, 0),
                 (["b"], 0), ({}, 0), (("b",), 0), (b"b", 0), ("B", 0), {"b": 0}, {"b", 0}, Thing(), LOW, (LOW, 0),
                 (0, "b")]
        for target in wrong + [("b", value) for value in no_columns(3)]:
            self.check_refused(None, {"a": LOW, "b": LOW}, {("a", "left"): target})
            self.check_refused(None, {"a": LOW, "b": LOW}, {("a", "right"): ("b", 0), ("a", "left"): target})

    def test_the_columns_are_those_of_the_taker(self):
        profiles = {"a": Profile([1, 2]), "b": Profile([1] * 5)}
        Cascade(profiles, {("a", "left"): ("b", 4)})
        self.check_refused(None, profiles, {("a", "left"): ("b", 5)})
        self.check_refused(None, profiles, {("b", "left"): ("a", 2)})

    def test_a_link_to_the_profile_itself(self):
        for side in SIDES:
            self.check_refused(None, {"a": LOW, "b": LOW}, {("a", side): ("a", 0)})
            self.check_refused(None, {"a": LOW}, {("a", side): ("a", 0)})

    def test_circles(self):
        for links, name in [(["ab", "ba"], "a"), (["bc", "cb"], "b"), (["ab", "bc", "cb"], "b"),
                            (["ab", "bc", "ca"], "a"), (["dc", "cd", "ad"], "c"), (["ab", "bd", "dc", "cb"], "b"),
                            (["ed", "de", "ab", "ca"], "d"), (["ab", "bc", "cd", "de", "ec"], "c"),
                            (["fe", "ef", "dc", "cd"], "c"), (["ab", "ac", "cb", "bc"], "b")]:
            for shuffled in itertools.permutations(links):
                found = {}
                for giver, taker in shuffled:
                    found[giver, "right" if (giver, "left") in found else "left"] = (taker, 0)
                self.check_refused(name, {other: LOW for other in "fedcba"}, found)

    def test_a_circle_of_eight(self):
        names = "hgfedcba"
        links = {(one, "left"): (other, 0) for one, other in zip(names, names[1:] + names[0])}
        self.check_refused("a", {name: LOW for name in names}, links)

    def test_two_ways_to_one_taker_are_no_circle(self):
        profiles = {name: LOW for name in "abcd"}
        links = {("a", "left"): ("b", 0), ("a", "right"): ("c", 0), ("b", "left"): ("d", 0), ("c", "left"): ("d", 0)}
        self.assertEqual(Cascade(profiles, links).names(), ["a", "b", "c", "d"])

    def test_wrong_values_come_before_circles(self):
        circle = {("a", "left"): ("b", 0), ("b", "left"): ("a", 0)}
        self.check_refused(None, {"a": LOW, "b": LOW}, {**circle, ("a", "right"): ("b", 3)})
        self.check_refused(None, {"a": LOW, "b": LOW, "C": LOW}, circle)
        self.check_refused("a", {"a": LOW, "b": LOW}, circle)


class ErrorsTest(Case):
    def check_refused(self, kind, field, value, word, *args, **more):
        cascade = example()
        before = state(cascade)
        self.check_error(kind, field, value, getattr(cascade, word), *args, **more)
        self.assertEqual([state(cascade), cascade], [before, example()])

    def test_amounts(self):
        for value in no_amounts():
            self.check_refused(InvalidNumber, "value", value, "rain", value)
            self.check_refused(InvalidNumber, "value", value, "rain", value, weights=5)
            self.check_refused(InvalidNumber, "value", value, "pour", "low", 1, value)

    def test_weights_that_are_no_dict_of_names(self):
        for value in [True, 0, "", "high", [], [("high", [1, 1, 1])], (), {"high"}, Thing(), [1, 1, 1], LOW,
                      {"middle": [1, 1, 1]}, {"": [1, 1, 1]}, {1: [1, 1, 1]}, {None: [1, 1, 1]}, {("high",): [1, 1, 1]},
                      {"high": [1, 1, 1], "High": [1, 1, 1]}, {"low": None, "middle": None}, {b"high": [1, 1, 1]}]:
            self.check_refused(InvalidWeights, "index", None, "rain", 1, weights=value)

    def test_weights_of_a_name(self):
        wrong = [*no_rows(), [], (), [1, 1], (1, 1, 1, 1), {"high": [1, 1, 1]}, "111"]
        wrong += [[1, value, 1] for value in [*no_integers(), -1, HUGE + 1]]
        for value in wrong:
            self.check_refused(InvalidWeights, "index", "high", "rain", 1, weights={"high": value})
            self.check_refused(InvalidWeights, "index", "low", "rain", 0, weights={"high": [1, 1, 1], "low": value})
            self.check_refused(InvalidWeights, "index", "high", "rain", 1, weights={"low": None, "high": value})
            self.check_refused(InvalidWeights, "index", "high", "rain", 1, weights={"low": [], "high": value})

    def test_columns(self):
        for value in no_columns(3):
            self.check_refused(InvalidColumn, "value", value, "pour", "low", value, 1)
            self.check_refused(InvalidColumn, "value", value, "pour", "low", value, -1)

    def test_names(self):
        for value in [None, True, 0, "", "Low", "lo", "low ", "middle", b"low", [], ["low"], (), ("low",), {},
                      {"low": 1}, {"low"}, Thing(), LOW, Ratio(1), 10 ** 70, Flood(LOW), example(), "x" * 20000]:
            self.check_refused(UnknownName, "name", value, "flood", value)
            self.check_refused(UnknownName, "name", value, "pour", value, 1, 1)
            self.check_refused(UnknownName, "name", value, "pour", value, -1, -1)

    def test_weights_none_are_all_1(self):
        one, other = example(), example()
        self.assertEqual(one.rain(1, weights=None), other.rain(1, weights={}))
        self.assertEqual(one, other)
        other = example()
        other.rain(1, weights={"low": (1, 1, 1), "high": [1, 1, 1]})
        self.assertEqual(one, other)

    def test_weights_by_name_only(self):
        with self.assertRaises(TypeError):
            example().rain(1, {})

    def test_nothing_falls(self):
        cascade = example()
        for call in (lambda: cascade.rain(0), lambda: cascade.rain(Ratio(0), weights={"low": [HUGE] * 3}),
                     lambda: cascade.pour("high", 1, 0),
                     lambda: cascade.rain(10 ** 59, weights={"low": [0] * 3, "high": (0, 0, 0)})):
            self.assertEqual(call(), [])
            self.assertEqual(cascade, example())


class CopiesTest(Case):
    def test_given_dicts_stay_and_can_be_changed_afterwards(self):
        for chance, profiles, links in random_cascades(10, 30):
            weights = some_weights(chance, profiles)
            given = [dict(profiles), dict(links), {name: list(row) for name, row in weights.items()}]
            cascade = Cascade(*given[:2])
            cascade.rain(3, weights=given[2])
            self.assertEqual(given, [profiles, links, weights])
            twin = Cascade(profiles, links)
            twin.rain(3, weights=weights)
            for part in given:
                part.clear()
            self.assertEqual([cascade, state(cascade)], [twin, state(twin)])
            cascade.rain(5)
            twin.rain(5)
            self.assertEqual([cascade, state(cascade)], [twin, state(twin)])

    def test_returned_values_can_be_changed(self):
        cascade = example()
        flood = cascade.flood("low")
        flood.rain(100)
        cascade.rain(0).append(1)
        self.assertEqual([cascade, state(cascade)], [example(), state(example())])
        cascade.rain(2).clear()
        other = example()
        other.rain(2)
        self.assertEqual(cascade, other)

    def test_a_clone_is_independent(self):
        for chance, profiles, links in random_cascades(11, 40):
            cascade = Cascade(profiles, links)
            cascade.rain(random_amount(chance), weights=some_weights(chance, profiles))
            before, twin = state(cascade), cascade.clone()
            self.assertIs(twin.__class__, Cascade)
            self.assertEqual([twin, state(twin)], [cascade, before])
            expected = twin.rain(9)
            self.assertEqual(state(cascade), before)
            after = state(twin)
            self.assertEqual(cascade.rain(9), expected)
            self.assertEqual([state(cascade), cascade], [after, twin])
            cascade.rain(4)
            self.assertEqual(state(twin), after)

    def test_no_result_depends_on_the_order_of_keys(self):
        for chance, profiles, links in random_cascades(12, 25):
            weights = some_weights(chance, profiles)
            results = []
            for _ in range(4):
                given = []
                for part in (profiles, links, weights):
                    items = list(part.items())
                    chance.shuffle(items)
                    given.append(dict(items))
                cascade = Cascade(*given[:2])
                found = cascade.rain(Ratio(17, 3), weights=given[2])
                results.append([found, state(cascade)])
            self.assertEqual(results, [results[0]] * 4)


class EqualityTest(Case):
    def check_differ(self, one, other):
        self.assertFalse(one == other)
        self.assertTrue(one != other)

    def test_links_and_floods_by_name(self):
        link = {("a", "left"): ("b", 1)}
        self.assertTrue(Cascade({"a": LOW, "b": HIGH}, link) == Cascade({"b": HIGH, "a": LOW}, dict(link)))
        self.assertFalse(Cascade({"a": LOW, "b": HIGH}, link) != Cascade({"b": HIGH, "a": LOW}, dict(link)))
        one = Cascade({"a": LOW, "b": HIGH}, link)
        for other in [Cascade({"a": LOW, "b": LOW}, link), Cascade({"a": LOW, "b": HIGH}, {}),
                      Cascade({"a": LOW, "b": HIGH}, {("a", "left"): ("b", 2)}),
                      Cascade({"a": LOW, "b": HIGH}, {("a", "right"): ("b", 1)}),
                      Cascade({"a": LOW, "b": HIGH, "c": HIGH}, link), Cascade({"a": HIGH, "b": LOW}, link)]:
            self.check_differ(one, other)
        self.check_differ(Cascade({"a": LOW}, {}), Cascade({"b": LOW}, {}))

    def test_the_water_counts(self):
        self.check_differ(example(), Cascade({"high": HIGH, "low": LOW}, {("high", "left"): ("low", 1)}))
        one, other = example(), example()
        one.pour("high", 0, 1)
        other.pour("high", 2, 1)
        self.check_differ(one, other)
        one.pour("high", 2, 1)
        other.pour("high", 0, 1)
        self.assertEqual(one.gone, other.gone)
        self.assertTrue(one == other)

    def test_values_of_other_kinds(self):
        for value in [None, True, 0, "", [], (), {}, {"high": Flood(HIGH)}, Thing(), Cascade, Flood(LOW), LOW]:
            self.check_differ(example(), value)
            self.check_differ(value, example())


class LimitsTest(Case):
    def test_eight_large_profiles(self):
        chance = random.Random(13)

        def drawn():
            rough = [chance.randint(0, HUGE) if column % 2 == 0 else chance.randint(-HUGE, -1) for column in range(60)]
            return Profile(rough, [chance.randint(1, HUGE) for _ in range(60)])

        profiles = {name: drawn() for name in NAMES}
        amount = Ratio(10 ** 60 - 1, 10 ** 29 + 7)
        for names in (NAMES, NAMES[::-1], chance.sample(NAMES, 8)):
            links = {(one, side): (other, chance.randrange(60)) for one, other in zip(names, names[1:])
                     for side in SIDES}
            links[names[0], "right"] = (names[-1], 59)
            cascade = Cascade(profiles, links)
            self.assertEqual(cascade.names(), list(names))
            weights = {names[1]: [chance.choice([0, 1, HUGE]) for _ in range(60)]}
            parts = cascade.clone()
            fallen = [parts.rain(amount * Ratio(1, 3), weights=weights),
                      parts.rain(amount * Ratio(2, 3), weights=weights)]
            found = cascade.rain(amount, weights=weights)
            self.assertEqual(found, fallen[0] + [(when + amount * Ratio(1, 3), *event) for when, *event in fallen[1]])
            self.assertEqual(cascade, parts)
            cascade.pour(names[0], 30, 10 ** 59 + 1)
            total = fraction(amount) * sum(a * b for name in names for a, b in zip(
                profiles[name].widths, weights.get(name, [1] * 60))) + 10 ** 59 + 1
            self.assertEqual(fraction(cascade.stored) + fraction(cascade.gone), total)

    def test_a_large_cascade_and_the_second_program(self):
        chance = random.Random(14)
        profiles = {name: Profile([chance.randint(-HUGE, HUGE) for _ in range(20)],
                                  [chance.randint(1, HUGE) for _ in range(20)]) for name in "cab"}
        links = {("c", "left"): ("a", 7), ("c", "right"): ("b", 11), ("a", "left"): ("b", 3), ("a", "right"): ("b", 3)}
        cascade, oracle = Cascade(profiles, links), oracle_for(profiles, links)
        for amount in (Ratio(10 ** 59 + 9, 10 ** 29 + 7), 10 ** 30, Ratio(1, 10 ** 59)):
            self.assertEqual(exact(cascade.rain(amount)), oracle.rain(fraction(amount)))
            self.assertEqual(fractions([cascade.stored, cascade.gone]), [oracle.stored(), oracle.gone()])

    def test_a_profile_of_each_kind_gives_to_each_other(self):
        for heights, widths in EDGES.values():
            profiles = {"a": Profile(heights, widths), "b": Profile(heights, widths).mirrored()}
            links = {("b", "right"): ("a", len(heights) // 2)}
            cascade, oracle = Cascade(profiles, links), oracle_for(profiles, links)
            self.assertEqual(exact(cascade.rain(30)), oracle.rain(Fraction(30)))


if __name__ == "__main__":
    unittest.main()
