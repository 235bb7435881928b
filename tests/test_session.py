import random
import unittest

from cases import (Case, content, edge_profiles, exact, fraction, no_amounts, no_columns, operations, perform,
                   random_profiles, random_weights, shown)
from rainvalleys.errors import (InvalidColumn, InvalidNumber, InvalidOperations, InvalidWeights, NothingToUndo)
from rainvalleys.floods import Flood
from rainvalleys.profiles import Profile
from rainvalleys.ratios import Ratio
from rainvalleys.session import Session
from samples import HUGE, Thing, no_integers, no_rows

PIT = [9, 0, 4, 1, 9]


def texts(history):
    """A history with its numbers as texts, but for columns and weights."""
    return [tuple(str(part) if isinstance(part, Ratio) else part for part in operation) for operation in history]


def as_tuple(operation):
    """An operation of the tests as sessions write it."""
    word, arguments = operation
    return (word, *arguments)


def listed(operation):
    """The same operation as a history has to list it."""
    word, *arguments = operation
    if word == "rain":
        return word, Ratio(0) + arguments[0], arguments[1] and tuple(arguments[1])
    return (word, *arguments[:-1], Ratio(0) + arguments[-1])


def result(found):
    """The result of an operation as something that can be compared."""
    return exact(found) if isinstance(found, list) else fraction(found)


def state(session):
    """All that a session tells about itself but for what can be redone."""
    return [content(session.flood()), session.history(), len(session)]


def redone(session):
    """How many operations can be performed again."""
    count = 0
    twin = session.clone()
    while True:
        try:
            twin.redo()
        except NothingToUndo:
            return count
        count += 1


def busy_session(seed=1):
    """A session with four current operations and two that are cancelled, and what it tells."""
    session = Session(Profile(PIT))
    for operation in operations(random.Random(seed), Profile(PIT), 6):
        perform(session, operation)
    session.undo(2)
    return session, state(session)


class OperationsTest(Case):
    def test_example_of_the_document(self):
        session = Session(Profile([3, 0, 3]))
        self.assertEqual(session.rain(1), [])
        self.check_ratio(session.pump(1, 1), "1")
        self.assertIsNone(session.undo())
        self.check_ratio(session.flood().stored, "2")
        self.assertEqual([str(x) for x in session.preview([("dry", 1)])], ["1"])
        self.assertEqual(len(session), 1)
        self.assertEqual(texts(session.history()), [("rain", "1", None)])

    def test_each_operation_returns_what_it_returns_on_a_flood(self):
        chance = random.Random(2)
        for profile in [profile for name, profile in edge_profiles()] + random_profiles(2, 40):
            session, flood = Session(profile), Flood(profile)
            for operation in operations(chance, profile, 8):
                self.assertEqual(result(perform(session, operation)), result(perform(flood, operation)))
                self.assertEqual(session.flood(), flood)

    def test_it_starts_dry(self):
        for name, profile in edge_profiles():
            session = Session(profile)
            self.assertEqual(session.flood(), Flood(profile))
            self.assertEqual([session.history(), len(session)], [[], 0])

    def test_kinds_of_results(self):
        session = Session(Profile([3, 0, 1, 0, 3]))
        self.assertEqual(shown(session.rain(2)), [("1/2", "joined", 0, 1), ("2", "full", 0, 1)])
        self.assertEqual(session.pour(1, 5), [])
        self.check_ratio(session.pump(1, 2), "2")
        self.check_ratio(session.dry(1), "3")
        self.assertIs(session.flood().__class__, Flood)
        self.assertIs(session.history().__class__, list)

    def test_arguments_by_name(self):
        session = Session(profile=Profile([9, 0, 9]))
        self.assertEqual(shown(session.rain(weights=[0, 1, 0], amount=9)), [("9", "full", 0, 0)])
        self.assertEqual(session.pour(volume=9, column=1), [])
        self.check_ratio(session.pump(volume=2, column=1), "2")
        self.check_ratio(session.dry(depth=3), "3")
        session.undo(count=2)
        session.redo(count=1)
        self.assertEqual(session.preview(operations=[("rain", 0, None)]), [[]])
        self.assertEqual(texts(session.history()),
                         [("rain", "9", (0, 1, 0)), ("pour", 1, "9"), ("pump", 1, "2")])

    def test_weights_by_name_only(self):
        session = Session(Profile([9, 0, 9]))
        with self.assertRaises(TypeError):
            session.rain(1, [1, 1, 1])
        self.assertEqual(len(session), 0)

    def test_the_flood_is_a_copy(self):
        session, before = busy_session()
        flood = session.flood()
        flood.rain(100)
        flood.pump(1, 3)
        self.assertIsNot(session.flood(), session.flood())
        self.assertEqual(state(session), before)

    def test_each_method_stands_in_the_class(self):
        for name in ("__init__ rain pour pump dry flood undo redo history preview clone __eq__ __len__").split():
            self.assertIn(name, Session.__dict__)


class ErrorsTest(Case):
    def check_refused(self, kind, field, value, word, *args, **more):
        session, before = busy_session()
        self.check_error(kind, field, value, getattr(session, word), *args, **more)
        self.assertEqual(state(session), before)
        self.assertEqual(redone(session), 2)
        session.redo(2)
        self.assertEqual(len(session), 6)

    def test_invalid_amounts(self):
        for value in no_amounts():
            self.check_refused(InvalidNumber, "value", value, "rain", value)
            self.check_refused(InvalidNumber, "value", value, "rain", value, weights=[])
            self.check_refused(InvalidNumber, "value", value, "pour", 1, value)
            self.check_refused(InvalidNumber, "value", value, "pump", 1, value)
            self.check_refused(InvalidNumber, "value", value, "dry", value)

    def test_invalid_columns(self):
        for value in no_columns(5):
            for word in ("pour", "pump"):
                self.check_refused(InvalidColumn, "value", value, word, value, 1)
                self.check_refused(InvalidColumn, "value", value, word, value, -1)

    def test_invalid_weights(self):
        for value in [*no_rows(), [], (), [1] * 4, [1] * 6]:
            if value is not None:
                self.check_refused(InvalidWeights, "index", None, "rain", 1, weights=value)
        for value in [*no_integers(), -1, HUGE + 1]:
            for index in (0, 2, 4):
                row = [1] * index + [value] * (5 - index)
                self.check_refused(InvalidWeights, "index", index, "rain", 1, weights=row)
                self.check_refused(InvalidWeights, "index", index, "rain", 0, weights=tuple(row))


class UndoTest(Case):
    def floods_on_the_way(self, profile, steps):
        flood, found = Flood(profile), [Flood(profile)]
        for operation in steps:
            perform(flood, operation)
            found.append(flood.clone())
        return found

    def test_back_and_forth_over_each_number_of_operations(self):
        chance = random.Random(3)
        for profile in [profile for name, profile in edge_profiles()]:
            steps = operations(chance, profile, 5)
            floods = self.floods_on_the_way(profile, steps)
            for back in range(1, 6):
                for forth in range(1, back + 1):
                    session = Session(profile)
                    for operation in steps:
                        perform(session, operation)
                    self.assertIsNone(session.undo(back))
                    self.assertEqual(session.flood(), floods[5 - back])
                    self.assertEqual(len(session), 5 - back)
                    self.assertIsNone(session.redo(forth))
                    self.assertEqual(session.flood(), floods[5 - back + forth])
                    self.assertEqual(session.history(),
                                     [listed(as_tuple(operation)) for operation in steps[:5 - back + forth]])
                    self.assertEqual(redone(session), back - forth)

    def test_one_by_one(self):
        session = Session(Profile(PIT))
        for volume in (1, 2, 3):
            session.pour(1, volume)
        for expected in ("3", "1", "0"):
            session.undo()
            self.check_ratio(session.flood().stored, expected)
        self.check_error(NothingToUndo, "count", 1, session.undo)
        for expected in ("1", "3", "6"):
            session.redo()
            self.check_ratio(session.flood().stored, expected)
        self.check_error(NothingToUndo, "count", 1, session.redo)

    def test_several_times_after_each_other(self):
        session = Session(Profile(PIT))
        for volume in (1, 2, 4, 8):
            session.pour(1, volume)
        session.undo(2)
        session.undo()
        session.redo(2)
        self.assertEqual(texts(session.history()), [("pour", 1, "1"), ("pour", 1, "2"), ("pour", 1, "4")])
        session.undo(3)
        session.redo(4)
        self.assertEqual([len(session), str(session.flood().stored)], [4, "15"])

    def test_an_operation_makes_cancelled_ones_unavailable(self):
        for word, arguments in [("rain", (1,)), ("rain", (0,)), ("pour", (1, 0)), ("pump", (0, 1)), ("dry", (0,))]:
            session, before = busy_session()
            getattr(session, word)(*arguments)
            self.check_error(NothingToUndo, "count", 1, session.redo)
            self.assertEqual([len(session), redone(session)], [5, 0])
            session.undo()
            self.assertEqual(state(session), before)
            self.assertEqual(redone(session), 1)

    def test_undo_behind_an_operation_that_replaced_others(self):
        session = Session(Profile(PIT))
        session.pour(1, 1)
        session.pour(1, 2)
        session.undo()
        session.pour(3, 4)
        session.undo(2)
        session.redo()
        self.assertEqual(texts(session.history()), [("pour", 1, "1")])
        session.redo()
        self.assertEqual(texts(session.history()), [("pour", 1, "1"), ("pour", 3, "4")])
        self.check_error(NothingToUndo, "count", 1, session.redo)

    def test_invalid_counts(self):
        for value in [*no_integers(), 0, -1, -HUGE, Ratio(1)]:
            for word in ("undo", "redo"):
                session, before = busy_session()
                self.check_error(InvalidNumber, "value", value, getattr(session, word), value)
                self.assertEqual([state(session), redone(session)], [before, 2])

    def test_not_so_many_operations(self):
        session, before = busy_session()
        for count in (5, 6, HUGE, 10 ** 59):
            self.check_error(NothingToUndo, "count", count, session.undo, count)
        for count in (3, 4, HUGE):
            self.check_error(NothingToUndo, "count", count, session.redo, count)
        self.assertEqual([state(session), redone(session)], [before, 2])
        self.check_error(NothingToUndo, "count", 1, Session(Profile(PIT)).undo)
        self.check_error(NothingToUndo, "count", 1, Session(Profile(PIT)).redo)

    def test_long_drawn_sequences(self):
        """Beside the session a list of the current operations, and a flood that performs only these."""
        chance = random.Random(4)
        for profile in random_profiles(4, 12) + [profile for name, profile in edge_profiles()][::3]:
            session, current, cancelled = Session(profile), [], []
            for _ in range(40):
                kind = chance.choice(["perform", "perform", "undo", "redo", "preview", "clone", "wrong"])
                if kind == "perform":
                    operation = operations(chance, profile, 1)[0]
                    perform(session, operation)
                    current, cancelled = current + [operation], []
                elif kind == "undo":
                    count = chance.randint(1, 4)
                    if count > len(current):
                        self.check_error(NothingToUndo, "count", count, session.undo, count)
                    else:
                        session.undo(count)
                        current, cancelled = current[:-count], current[-count:] + cancelled
                elif kind == "redo":
                    count = chance.randint(1, 3)
                    if count > len(cancelled):
                        self.check_error(NothingToUndo, "count", count, session.redo, count)
                    else:
                        session.redo(count)
                        current, cancelled = current + cancelled[:count], cancelled[count:]
                elif kind == "preview":
                    steps = operations(chance, profile, 3)
                    twin = session.clone()
                    expected = [result(perform(twin, operation)) for operation in steps]
                    found = session.preview([as_tuple(operation) for operation in steps])
                    self.assertEqual([result(part) for part in found], expected)
                elif kind == "clone":
                    other = session
                    session = session.clone()
                    other.rain(3)
                    other.undo()
                else:
                    self.check_error(InvalidColumn, "value", -1, session.pour, -1, 1)
                self.check_like(session, profile, current)

    def check_like(self, session, profile, current):
        flood, plain = Flood(profile), Session(profile)
        for operation in current:
            perform(flood, operation)
            perform(plain, operation)
        self.assertEqual(session.flood(), flood)
        self.assertEqual(content(session.flood()), content(flood))
        self.assertEqual(session.history(), [listed(as_tuple(operation)) for operation in current])
        self.assertEqual([session, len(session)], [plain, len(current)])


class HistoryTest(Case):
    def test_numbers_are_ratios_columns_integers_and_weights_tuples(self):
        session = Session(Profile([9, 0, 9]))
        session.rain(1)
        session.rain(Ratio(1, 2), weights=[1, 2, 3])
        session.rain(Ratio(2), weights=(1, 2, 3))
        session.pour(1, 5)
        session.pump(1, Ratio(1, 3))
        session.dry(0)
        history = session.history()
        self.assertEqual(repr(history), "[('rain', Ratio(1, 1), None), ('rain', Ratio(1, 2), (1, 2, 3)), "
                         "('rain', Ratio(2, 1), (1, 2, 3)), ('pour', 1, Ratio(5, 1)), ('pump', 1, Ratio(1, 3)), "
                         "('dry', Ratio(0, 1))]")
        self.assertEqual([operation.__class__ for operation in history], [tuple] * 6)
        self.assertEqual([history[1][2].__class__, history[3][1].__class__], [tuple, int])

    def test_given_weights_can_be_changed_afterwards(self):
        session, weights = Session(Profile([9, 0, 9])), [0, 1, 0]
        session.rain(2, weights=weights)
        weights[1] = 1000
        session.undo()
        session.redo()
        self.assertEqual([session.history()[0][2], str(session.flood().stored)], [(0, 1, 0), "2"])
        weights.clear()
        self.assertEqual(session.history()[0][2], (0, 1, 0))

    def test_the_returned_list_can_be_changed(self):
        session, before = busy_session()
        session.history().clear()
        session.history().append(("dry", 1))
        session.history()[0] = ("dry", Ratio(5))
        self.assertEqual(state(session), before)
        session.undo(4)
        session.redo(6)
        self.assertEqual(len(session), 6)

    def test_returned_events_can_be_changed(self):
        session = Session(Profile([3, 0, 1, 0, 3]))
        found = session.rain(2)
        found.clear()
        session.preview([("rain", 1, None)])[0].append(1)
        self.assertEqual(session, session.clone())
        session.undo()
        session.redo()
        self.assertEqual(str(session.flood().stored), "8")

    def test_the_profile_is_a_copy(self):
        profile = Profile([9, 0, 9])
        session = Session(profile)
        session.rain(1)
        self.assertEqual(repr(profile), "Profile([9, 0, 9], [1, 1, 1])")
        self.assertEqual(session.flood().profile, profile)

    def test_a_history_can_be_performed_again(self):
        chance = random.Random(5)
        for profile in random_profiles(5, 30):
            session = Session(profile)
            for operation in operations(chance, profile, 6):
                perform(session, operation)
            twin = Session(profile)
            twin.preview(session.history())
            for word, *arguments in session.history():
                perform(twin, (word, arguments))
            self.assertEqual([twin, state(twin)], [session, state(session)])


class PreviewTest(Case):
    def test_its_results(self):
        chance = random.Random(6)
        for profile in [profile for name, profile in edge_profiles()] + random_profiles(6, 20):
            session, flood = Session(profile), Flood(profile)
            for operation in operations(chance, profile, 3):
                perform(session, operation)
                perform(flood, operation)
            before = state(session)
            steps = operations(chance, profile, 5)
            found = session.preview([as_tuple(operation) for operation in steps])
            self.assertEqual([result(part) for part in found],
                             [result(perform(flood, operation)) for operation in steps])
            self.assertEqual(state(session), before)

    def test_lists_of_weights_and_integers(self):
        session = Session(Profile([9, 0, 9]))
        weights = [0, 1, 0]
        steps = [("rain", 1, weights), ("rain", Ratio(1), (0, 1, 0)), ("rain", 1, None), ("pour", 1, 6),
                 ("pump", 1, 2), ("dry", 1)]
        found = session.preview(steps)
        self.assertEqual([shown(part) if isinstance(part, list) else str(part) for part in found],
                         [[], [], [], [("5", "full", 0, 0)], "2", "1"])
        self.assertEqual(steps, [("rain", 1, [0, 1, 0]), ("rain", Ratio(1), (0, 1, 0)), ("rain", 1, None),
                                 ("pour", 1, 6), ("pump", 1, 2), ("dry", 1)])
        self.assertEqual(len(session), 0)

    def test_nothing(self):
        session, before = busy_session()
        self.assertEqual(session.preview([]), [])
        self.assertEqual([state(session), redone(session)], [before, 2])

    def test_values_that_are_no_list(self):
        for value in [None, True, 0, "", "rain", (), (("dry", 1),), {}, {0: ("dry", 1)}, Thing(), Profile([1]),
                      Ratio(1)]:
            session, before = busy_session()
            self.check_error(InvalidOperations, "index", None, session.preview, value)
            self.assertEqual([state(session), redone(session)], [before, 2])

    def test_invalid_items(self):
        wrong = [None, True, 1, "dry", "rain", [], ["dry", 1], (), ("dry",), ("dry", 1, None), ("rain", 1),
                 ("rain", 1, None, None), ("pour", 1), ("pour", 1, 1, 1), ("pump", 1), ("rain",), ("undo", 1),
                 ("undo",), ("Dry", 1), ("", 1), (1, 1), (None, 1), (True, 1), ("dry ", 1), (["dry"], 1),
                 (("dry",), 1), ({}, 1), (b"dry", 1), (Ratio(1), 1), ({"dry": 1}, 1), {"dry": 1}, Thing(),
                 ("preview", []), ("flood",), ("surface", 1), ("depth", 1), ("print", 1)]
        for value in wrong:
            for index in (0, 1, 3):
                session, before = busy_session()
                # The items behind the wrong one are wrong, too, and those before it would raise an error of their own.
                items = [("dry", -1)] * index + [value] + [None]
                self.check_error(InvalidOperations, "index", index, session.preview, items)
                self.assertEqual([state(session), redone(session)], [before, 2])

    def test_errors_of_the_operations(self):
        for value in no_amounts():
            for item in [("rain", value, None), ("rain", value, 5), ("pour", 1, value), ("pump", 1, value),
                         ("dry", value)]:
                session, before = busy_session()
                self.check_error(InvalidNumber, "value", value, session.preview, [("rain", 3, None), item, ("dry", -5)])
                self.assertEqual([state(session), redone(session)], [before, 2])
        for value in no_columns(5):
            for word in ("pour", "pump"):
                session, before = busy_session()
                self.check_error(InvalidColumn, "value", value, session.preview, [("dry", 1), (word, value, -1)])
                self.assertEqual([state(session), redone(session)], [before, 2])
        for value, index in [([1], None), (5, None), ("11111", None), ([1, 1, True, 1, 1], 2), ((1,) * 4 + (-1,), 4)]:
            session, before = busy_session()
            self.check_error(InvalidWeights, "index", index, session.preview, [("rain", 1, value)])
            self.assertEqual([state(session), redone(session)], [before, 2])


class CopiesTest(Case):
    def test_a_clone_is_independent(self):
        chance = random.Random(7)
        for profile in random_profiles(7, 30):
            session = Session(profile)
            for operation in operations(chance, profile, 6):
                perform(session, operation)
            session.undo(3)
            before, twin = state(session), session.clone()
            self.assertIs(twin.__class__, Session)
            self.assertEqual([state(twin), twin, redone(twin)], [before, session, 3])
            twin.redo(2)
            twin.undo(5)
            twin.rain(3)
            self.assertEqual([state(session), redone(session)], [before, 3])
            after = state(twin)
            session.redo(3)
            session.undo(6)
            session.dry(1)
            self.assertEqual([state(twin), redone(twin)], [after, 0])

    def test_a_clone_has_the_cancelled_operations(self):
        session, before = busy_session()
        twin = session.clone()
        session.redo(2)
        after = state(session)
        twin.redo(2)
        self.assertEqual(state(twin), after)

    def test_sessions_of_one_profile_are_independent(self):
        profile = Profile(PIT)
        one, other = Session(profile), Session(profile)
        one.rain(1)
        self.assertEqual(state(other), state(Session(profile)))


class EqualityTest(Case):
    def check_differ(self, one, other):
        self.assertFalse(one == other)
        self.assertTrue(one != other)

    def pit(self, *volumes):
        session = Session(Profile(PIT))
        for volume in volumes:
            session.pour(1, volume)
        return session

    def test_by_profile_and_history_alone(self):
        self.assertTrue(self.pit(1, 2) == self.pit(Ratio(1), 2))
        self.assertFalse(self.pit(1, 2) != self.pit(1, 2))
        self.check_differ(self.pit(1, 2), self.pit(2, 1))
        self.check_differ(self.pit(3), self.pit(1, 2))
        self.check_differ(self.pit(1), self.pit(1, 0))
        self.assertEqual(self.pit(3).flood(), self.pit(1, 2).flood())
        self.check_differ(self.pit(), Session(Profile([9, 0, 4, 1, 8])))
        self.check_differ(self.pit(), Session(Profile(PIT, [2, 1, 1, 1, 1])))

    def test_cancelled_operations_do_not_count(self):
        one = self.pit(1, 2)
        one.undo()
        self.assertTrue(one == self.pit(1))
        other = self.pit(1, 3, 4)
        other.undo(2)
        self.assertTrue(one == other)
        self.check_differ(one, self.pit(1, 2))

    def test_different_words_and_weights(self):
        def session(word, *arguments, **more):
            found = Session(Profile([9, 0, 9]))
            getattr(found, word)(*arguments, **more)
            return found
        self.check_differ(session("rain", 1), session("rain", 1, weights=[1, 1, 1]))
        self.assertTrue(session("rain", 1, weights=(1, 1, 1)) == session("rain", 1, weights=[1, 1, 1]))
        self.check_differ(session("pour", 1, 1), session("pump", 1, 1))
        self.check_differ(session("pour", 1, 1), session("pour", 0, 1))
        self.check_differ(session("rain", 0), session("dry", 0))

    def test_values_of_other_kinds(self):
        for value in [None, True, 0, "", [], (), {}, Thing(), Session, Flood(Profile(PIT)), Profile(PIT)]:
            self.check_differ(self.pit(), value)
            self.check_differ(value, self.pit())


class LimitsTest(Case):
    def test_large_profiles_and_numbers(self):
        chance = random.Random(8)
        profile = Profile([chance.randint(-HUGE, HUGE) for _ in range(60)],
                          [chance.randint(1, HUGE) for _ in range(60)])
        session, flood = Session(profile), Flood(profile)
        amount = Ratio(10 ** 60 - 1, 10 ** 59 + 7)
        weights = [chance.choice([0, 1, HUGE]) for _ in range(60)]
        for operation in [("rain", (amount, weights)), ("pour", (31, 10 ** 60 - 1)), ("pump", (31, amount)),
                          ("dry", (amount,)), ("rain", (HUGE, None))]:
            self.assertEqual(result(perform(session, operation)), result(perform(flood, operation)))
        session.undo(5)
        session.redo(5)
        self.assertEqual(session.flood(), flood)
        self.assertEqual(session.history()[0], ("rain", amount, tuple(weights)))

    def test_many_operations(self):
        session = Session(Profile(PIT))
        for _ in range(2000):
            session.pour(1, Ratio(1, 500))
        self.assertEqual([len(session), str(session.flood().stored)], [2000, "4"])
        session.undo(1999)
        self.check_ratio(session.flood().stored, "1/500")
        session.redo(1999)
        self.check_ratio(session.flood().stored, "4")
        self.assertEqual(len(session.preview([("pump", 1, Ratio(1, 500))] * 2000)), 2000)

    def test_random_weights_at_each_operation(self):
        chance = random.Random(9)
        for profile in random_profiles(9, 20):
            session, flood = Session(profile), Flood(profile)
            for _ in range(4):
                weights = random_weights(chance, profile)
                self.assertEqual(exact(session.rain(1, weights=weights)), exact(flood.rain(1, weights=weights)))
            self.assertEqual(session.flood(), flood)


if __name__ == "__main__":
    unittest.main()
