"""The guarantees of the document on many small profiles."""

import random
import unittest
from fractions import Fraction

from cases import (Case, content, edge_profiles, exact, flooded, fraction, fractions, operations, perform,
                   random_amount, random_profiles, random_weights)
from rainvalleys.amounts import (amount_to_exceed, amount_to_reach, amount_to_store, end_amount, end_surfaces,
                                 end_volume, events, fitting_amounts, flood_after)
from rainvalleys.floods import Flood
from rainvalleys.profiles import Profile
from rainvalleys.ratios import Ratio
from rainvalleys.valleys import lakes, peak_heights


def profiles(seed, many):
    return [profile for name, profile in edge_profiles()] + random_profiles(seed, many, columns=12)


def fallen(profile, word, arguments):
    """The volume that an operation lets fall on each column."""
    found = [Fraction(0)] * len(profile)
    if word == "rain":
        amount, weights = arguments
        weights = weights or [1] * len(profile)
        found = [width * weight * fraction(amount) for width, weight in zip(profile.widths, weights)]
    if word == "pour":
        found[arguments[0]] = fraction(arguments[1])
    return found


class WaterIsKeptTest(Case):
    def test_what_fell_is_stored_or_left_or_was_taken(self):
        chance = random.Random(21)
        for profile in profiles(21, 150):
            flood, total = Flood(profile), Fraction(0)
            for word, arguments in operations(chance, profile, 7):
                perform(flood, (word, arguments))
                total += sum(fallen(profile, word, arguments))
                parts = fractions([flood.stored, flood.left, flood.right, flood.taken])
                self.assertEqual(sum(parts), total)
                self.assertTrue(all(part >= 0 for part in parts))

    def test_the_stored_volume_is_the_sum_over_the_columns(self):
        chance = random.Random(22)
        for profile in profiles(22, 60):
            flood = flooded(profile, chance, 5)
            depths = [flood.depth(column) * width for column, width in enumerate(profile.widths)]
            self.assertEqual(sum(depths, Ratio(0)), flood.stored)


class EventsTest(Case):
    def test_between_events_volumes_grow_linearly(self):
        for profile in profiles(23, 30):
            moments = [Ratio(0)] + [when for when, *event in events(profile)]
            for start, stop in zip(moments, moments[1:]):
                ends = [flood_after(profile, amount) for amount in (start, (start + stop) * Ratio(1, 2), stop)]
                for name in ("stored", "left", "right"):
                    first, middle, last = [getattr(flood, name) for flood in ends]
                    self.assertEqual(middle * 2, first + last)

    def test_events_are_in_order(self):
        chance = random.Random(24)
        for profile in profiles(24, 60):
            found = Flood(profile).rain(40, weights=random_weights(chance, profile))
            keys = [(when, ["joined", "full"].index(word), first) for when, word, first, last in exact(found)]
            self.assertEqual(keys, sorted(keys))
            self.assertEqual(len(keys), len(set(keys)))
            self.assertTrue(all(0 < when <= 40 for when, *rest in keys))


class OnlyTheAmountCountsTest(Case):
    def distinct_profiles(self, seed):
        """Profiles of which all peaks have different heights."""
        chance = random.Random(seed)
        found = []
        for _ in range(150):
            heights = chance.sample(range(20), chance.randint(3, 12))
            found.append(Profile(heights, [chance.choice([1, 2, 7]) for _ in heights]))
        found += [profile for profile in profiles(seed, 100)
                  if len(set(peak_heights(profile))) == len(peak_heights(profile))]
        return found

    def test_rain_and_pouring_in_any_order(self):
        chance = random.Random(25)
        for profile in self.distinct_profiles(25):
            falls = [operation for operation in operations(chance, profile, 8) if operation[0] in ("rain", "pour")]
            results = []
            for _ in range(3):
                flood = Flood(profile)
                for operation in falls:
                    perform(flood, operation)
                results.append(content(flood))
                chance.shuffle(falls)
            self.assertEqual([results[0]] * 3, results)

    def test_rain_is_pouring_on_each_column(self):
        for profile in self.distinct_profiles(26):
            rained, poured = Flood(profile), Flood(profile)
            rained.rain(Ratio(5, 3))
            for column in reversed(range(len(profile))):
                poured.pour(column, Ratio(5, 3) * profile.widths[column])
            self.assertEqual(poured, rained)


class EndTest(Case):
    def test_up_to_the_smaller_one_of_the_greatest_heights(self):
        for profile in profiles(27, 100):
            heights = profile.heights
            ends = [min(max(heights[:at + 1]), max(heights[at:])) for at in range(len(heights))]
            self.assertEqual(end_surfaces(profile), ends)
            flood = flood_after(profile, 10 ** 9)
            self.assertEqual(fractions([flood.surface(column) for column in range(len(heights))]), ends)


class LakesTest(Case):
    def test_each_lake_is_a_body_after_some_amount(self):
        chance = random.Random(28)
        for profile in profiles(28, 150):
            for _ in range(3):
                flood = Flood(profile)
                found = flood.rain(10 ** 6, weights=[chance.choice([1, 2, 30, 700]) for _ in range(len(profile))])
                bodies = [(first, last) for when, word, first, last in found if word == "joined"]
                for height, first, last in lakes(profile):
                    self.assertIn((first, last), bodies)

    def test_more_water_never_leads_to_less(self):
        chance = random.Random(29)
        for profile in profiles(29, 250):
            steps = operations(chance, profile, 6)
            at = chance.randrange(len(steps) + 1)
            extra = chance.choice([("pour", (chance.randrange(len(profile)), random_amount(chance) * 3)),
                                   ("rain", (random_amount(chance), random_weights(chance, profile)))])
            less, more = Flood(profile), Flood(profile)
            for operation in steps:
                perform(less, operation)
            for operation in steps[:at] + [extra] + steps[at:]:
                perform(more, operation)
            for low, high in zip(less.levels(), more.levels()):
                self.assertLessEqual(low, high)
            self.assertLessEqual(less.left, more.left)
            self.assertLessEqual(less.right, more.right)

    def test_a_greater_amount_never_leads_to_less(self):
        for profile in profiles(30, 40):
            floods = [flood_after(profile, Ratio(part, 5)) for part in range(12)]
            for one, other in zip(floods, floods[1:]):
                for low, high in zip([*one.levels(), one.left, one.right], [*other.levels(), other.left, other.right]):
                    self.assertLessEqual(low, high)


class SymmetryTest(Case):
    """The same operations on a profile and on a changed one."""

    def pairs(self, seed, changed, changed_operation):
        chance = random.Random(seed)
        for profile in profiles(seed, 60):
            other = changed(profile)
            one, two = Flood(profile), Flood(other)
            for operation in operations(chance, profile, 5):
                first = perform(one, operation)
                second = perform(two, changed_operation(profile, operation))
                yield one, two, operation[0], first, second

    def test_mirrored_profiles(self):
        def mirrored(profile, operation):
            word, arguments = operation
            if word == "rain":
                return word, (arguments[0], arguments[1] and arguments[1][::-1])
            if word == "dry":
                return operation
            return word, (len(profile) - 1 - arguments[0], arguments[1])

        for one, two, word, first, second in self.pairs(31, Profile.mirrored, mirrored):
            last = len(one.levels()) - 1
            self.assertEqual(one.levels(), two.levels()[::-1])
            self.assertEqual([one.stored, one.left, one.right, one.taken], [two.stored, two.right, two.left, two.taken])
            self.assertEqual(one.bodies(), [(last - b, last - a) for a, b in two.bodies()][::-1])
            if word in ("rain", "pour"):
                self.assertEqual(sorted(exact(first)),
                                 sorted((when, kind, last - b, last - a) for when, kind, a, b in exact(second)))
            else:
                self.assertEqual(first, second)

    def test_mirrored_amounts_and_observations(self):
        for profile in profiles(32, 25):
            other, last = profile.mirrored(), len(profile) - 1
            self.assertEqual(end_surfaces(profile), end_surfaces(other)[::-1])
            self.assertEqual([end_volume(profile), end_amount(profile)], [end_volume(other), end_amount(other)])
            for column in range(len(profile)):
                for depth in (0, Ratio(1, 2), 1, 2, 3):
                    self.assertEqual(amount_to_reach(profile, column, depth),
                                     amount_to_reach(other, last - column, depth))
                    self.assertEqual(amount_to_exceed(profile, column, depth),
                                     amount_to_exceed(other, last - column, depth))
                    self.assertEqual(fitting_amounts(profile, [(column, depth)]),
                                     fitting_amounts(other, [(last - column, depth)]))

    def test_widths_multiplied_by_a_factor(self):
        def more(profile, operation):
            word, arguments = operation
            return (word, (arguments[0], arguments[1] * 6)) if word in ("pour", "pump") else operation

        for one, two, word, first, second in self.pairs(33, lambda profile: profile.scaled(width=6), more):
            self.assertEqual(one.levels(), two.levels())
            for name in ("stored", "left", "right", "taken"):
                self.assertEqual(getattr(one, name) * 6, getattr(two, name))
            if word == "pour":
                self.assertEqual([(when * 6, *event) for when, *event in first], second)
            else:
                self.assertEqual(first * 6 if word in ("pump", "dry") else first, second)
        for profile in profiles(34, 25):
            other = profile.scaled(width=6)
            self.assertEqual(list(events(profile)), list(events(other)))
            self.assertEqual([end_volume(profile) * 6, end_amount(profile)], [end_volume(other), end_amount(other)])
            for volume in (1, Ratio(7, 2), 11):
                self.assertEqual(amount_to_store(profile, volume), amount_to_store(other, volume * 6))

    def test_heights_multiplied_by_a_factor(self):
        def more(profile, operation):
            word, arguments = operation
            if word in ("pour", "pump"):
                return word, (arguments[0], arguments[1] * 5)
            return word, (arguments[0] * 5, *arguments[1:])

        for one, two, word, first, second in self.pairs(35, lambda profile: profile.scaled(height=5), more):
            self.assertEqual([level * 5 for level in one.levels()], two.levels())
            for name in ("stored", "left", "right", "taken"):
                self.assertEqual(getattr(one, name) * 5, getattr(two, name))
            if word in ("pour", "rain"):
                self.assertEqual([(when * 5, *event) for when, *event in first], second)
            else:
                self.assertEqual(first * 5, second)
        for profile in profiles(36, 25):
            other = profile.scaled(height=5)
            self.assertEqual([(when * 5, *event) for when, *event in events(profile)], list(events(other)))
            for column in range(len(profile)):
                for depth in (0, Ratio(1, 2), 1, 2, 3):
                    for function in (amount_to_reach, amount_to_exceed):
                        found = function(profile, column, depth)
                        self.assertEqual(found and found * 5, function(other, column, depth * 5))

    def test_heights_that_all_grow(self):
        def grown(profile):
            return Profile([height - 17 for height in profile.heights], profile.widths)

        for one, two, word, first, second in self.pairs(37, grown, lambda profile, operation: operation):
            self.assertEqual([level - 17 for level in one.levels()], two.levels())
            for name in ("stored", "left", "right", "taken"):
                self.assertEqual(getattr(one, name), getattr(two, name))
            self.assertEqual(first, second)

    def test_divided_columns(self):
        """Each column becomes two neighbours; water that was poured on it is poured on either of them."""
        def divided(profile):
            widths = [part for width in profile.widths for part in (width, 2 * width)]
            return Profile([height for height in profile.heights for _ in range(2)], widths)

        def operation_there(profile, operation):
            word, arguments = operation
            if word == "rain" and arguments[1] is not None:
                return word, (arguments[0], [weight for weight in arguments[1] for _ in range(2)])
            return (word, (2 * arguments[0] + 1, arguments[1])) if word in ("pour", "pump") else operation

        chance = random.Random(38)
        for profile in profiles(38, 60):
            if len(profile) > 30:
                continue
            wide = Profile(profile.heights, [3 * width for width in profile.widths])
            one, two = Flood(wide), Flood(divided(profile))
            for operation in operations(chance, profile, 5):
                self.assertEqual(perform(one, operation), perform(two, operation_there(profile, operation)))
                self.assertEqual(one.levels(), two.levels())
                self.assertEqual([one.stored, one.left, one.right, one.taken],
                                 [two.stored, two.left, two.right, two.taken])
            for column in range(len(profile)):
                self.assertEqual(amount_to_reach(wide, column, 1), amount_to_reach(divided(profile), 2 * column, 1))


class EqualCallsTest(Case):
    def test_equal_calls_have_equal_results(self):
        chance = random.Random(39)
        for profile in profiles(39, 40):
            steps = operations(chance, profile, 6)
            one, other = Flood(profile), Flood(Profile(list(profile.heights), list(profile.widths)))
            for operation in steps:
                self.assertEqual(perform(one, operation), perform(other, operation))
                self.assertEqual(content(one), content(other))


if __name__ == "__main__":
    unittest.main()
