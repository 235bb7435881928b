"""Performing scripts."""

import random
import unittest

from cases import Case, content, edge_profiles, flooded, fraction, fractions, operations, perform, random_profiles
from drawn_scripts import CALLS, block, expression, written
from rainvalleys import errors
from rainvalleys.errors import (InvalidColumn, InvalidNumber, InvalidValley, LimitExceeded, ScriptError, UnknownName)
from rainvalleys.floods import Flood
from rainvalleys.profiles import Profile
from rainvalleys.ratios import Ratio
from rainvalleys.scripts import parse_script, run_script, script_text
from samples import HUGE, Thing, no_integers
from script_oracle import Interpreter, Stop

PIT = Profile([3, 0, 1, 0, 3])


def wet_flood():
    flood = Flood(Profile([9, 0, 4, 1, 9, 2]))
    flood.pour(1, 9)
    flood.pump(3, 1)
    return flood


class RunCase(Case):
    def check_prints(self, text, expected, flood=None, **more):
        """The texts of the printed values."""
        found = run_script(Flood(PIT) if flood is None else flood, text, **more)
        self.assertIs(found.__class__, list)
        for part in found:
            self.assertIs(part.__class__, Ratio)
        self.assertEqual([str(part) for part in found], expected)

    def check_value(self, text, expected, flood=None):
        self.check_prints("print " + text, [expected], flood)

    def check_fails(self, kind, field, value, text, flood=None, **more):
        """The script raises this error, and the flood stays as it was."""
        flood = wet_flood() if flood is None else flood
        before = content(flood)
        self.check_error(kind, field, value, run_script, flood, text, **more)
        self.check_unchanged(flood, before)


class StatementsTest(RunCase):
    def test_example_of_the_document(self):
        flood = Flood(PIT)
        text = "n = 0\nwhile stored() < 5 { rain 1/2; n = n + 1 }  # half by half\nprint n; print depth(2) * 2"
        self.check_prints(text, ["3", "8/3"], flood)
        self.check_ratio(flood.stored, "6")

    def test_water(self):
        for text, calls in [("rain 2", [("rain", 2)]), ("rain 1/3", [("rain", Ratio(1, 3))]),
                            ("pour 1, 5", [("pour", 1, 5)]), ("pour 1+2, 5/2", [("pour", 3, Ratio(5, 2))]),
                            ("rain 2; pump 3, 1/2", [("rain", 2), ("pump", 3, Ratio(1, 2))]),
                            ("rain 2\ndry 3/2", [("rain", 2), ("dry", Ratio(3, 2))]), ("rain 0", []), ("", []),
                            ("pour 0, 7; pour 4, 1; dry 1/5; pump 1, 9; rain 3", [
                                ("pour", 0, 7), ("pour", 4, 1), ("dry", Ratio(1, 5)), ("pump", 1, 9), ("rain", 3)])]:
            flood, other = Flood(PIT), Flood(PIT)
            self.check_prints(text, [], flood)
            for word, *arguments in calls:
                getattr(other, word)(*arguments)
            self.assertEqual([flood, content(flood)], [other, content(other)])

    def test_the_flood_that_was_given_is_changed(self):
        flood = wet_flood()
        before = content(flood)
        twin = flood.clone()
        run_script(flood, "rain 1")
        twin.rain(1)
        self.assertEqual(flood, twin)
        self.assertNotEqual(content(flood), before)
        flood.rain(2)
        twin.rain(2)
        self.assertEqual(flood, twin)

    def test_print_and_variables(self):
        self.check_prints("print 1; print 2/4; print 0", ["1", "1/2", "0"])
        self.check_prints("a = 1; b = a + 1; a = b * 3; print a; print b", ["6", "2"])
        self.check_prints("depth = 3; min = 2; print depth * min; print min(depth, min)", ["6", "2"])
        self.check_prints("if 1 { a = 5 }; repeat 2 { a = a + 1 }; print a", ["7"])
        self.check_prints("", [])

    def test_if(self):
        for condition, expected in [("1", "1"), ("0", "2"), ("-1", "1"), ("1/3", "1"), ("2 - 2", "2"), ("0/5", "2")]:
            self.check_prints(f"if {condition} {{ print 1 }} else {{ print 2 }}", [expected])
            self.check_prints(f"if {condition} {{ print 1 }}", ["1"] if expected == "1" else [])

    def test_repeat(self):
        self.check_prints("repeat 3 { print 7 }", ["7"] * 3)
        self.check_prints("repeat 0 { print 7 }", [])
        self.check_prints("repeat 6/3 { print 7 }", ["7"] * 2)
        self.check_prints("n = 2; repeat n { n = n + 5; print n }", ["7", "12"])
        self.check_prints("repeat 2 { repeat 2 { print 1 }; print 2 }", ["1", "1", "2"] * 2)

    def test_while(self):
        self.check_prints("n = 3; while n { print n; n = n - 1 }", ["3", "2", "1"])
        self.check_prints("while 0 { print 1 }", [])
        self.check_prints("n = -1; while n < 1 { n = n + 1/2 }; print n", ["1"])

    def test_each_parameter_by_name(self):
        flood = Flood(PIT)
        self.assertEqual([str(part) for part in run_script(text="rain 1; print stored()", limit=2, flood=flood)], ["4"])

    def test_the_limit_by_name_only(self):
        with self.assertRaises(TypeError):
            run_script(Flood(PIT), "", 5)

    def test_the_returned_list_can_be_changed(self):
        flood = Flood(PIT)
        run_script(flood, "print 1").clear()
        self.check_prints("print 1", ["1"], flood)


class ExpressionsTest(RunCase):
    def test_values(self):
        for text, expected in [
                ("1 + 2 * 3", "7"), ("7 / 2", "7/2"), ("7 / 2 / 7", "1/2"), ("2 - 3 - 4", "-5"), ("-2 * 3", "-6"),
                ("-(1 - 3)", "2"), ("8 / -4", "-2"), ("1/3 + 1/6", "1/2"), ("0007", "7"), ("-0", "0"), ("2 - -3", "5"),
                ("9" * 60, "9" * 60), ("1 / " + "9" * 60, "1/" + "9" * 60)]:
            self.check_value(text, expected)

    def test_comparisons_give_1_or_0(self):
        for sign, results in [("<", "100"), ("<=", "110"), (">", "001"), (">=", "011"), ("==", "010"), ("!=", "101")]:
            for left, expected in zip(("1/2", "2/3", "5/7"), results):
                self.check_value(f"{left} {sign} 1 - 1/3", expected)
        self.check_value("(1 < 2) + (2 < 3)", "2")

    def test_and_or_not_give_1_or_0(self):
        for text, expected in [("5 and 7", "1"), ("5 and 0", "0"), ("0 and 5", "0"), ("0 or 0", "0"), ("0 or 9", "1"),
                               ("-3 or 0", "1"), ("not 0", "1"), ("not 5", "0"), ("not 1/2", "0"), ("not -1", "0"),
                               ("not 1 < 2", "0"), ("not 2 < 1 and 3", "1"), ("1 or 0 and 0", "1"),
                               ("1/2 and 1/3", "1")]:
            self.check_value(text, expected)

    def test_the_right_operand_only_if_the_left_one_does_not_decide(self):
        for text, expected in [("0 and 1/0", "0"), ("1 or 1/0", "1"), ("0 and x", "0"), ("-1 or depth(99)", "1"),
                               ("0 and 1/0 and x", "0"), ("1 or x or y", "1"), ("1 and 0 and x", "0"),
                               ("0 and x or 5", "1")]:
            self.check_value(text, expected)
        self.check_fails(InvalidNumber, "value", Ratio(0), "print 1 and 1/0")
        self.check_fails(InvalidNumber, "value", Ratio(0), "print 0 or 1/0")
        self.check_fails(UnknownName, "name", "x", "print 1 and x")
        self.check_fails(UnknownName, "name", "x", "print 0 and 1 or x")
        self.check_fails(UnknownName, "name", "x", "print x and 0")

    def test_calls_for_the_flood(self):
        flood = wet_flood()
        for text, expected in [("stored()", flood.stored), ("left()", flood.left), ("right()", flood.right),
                               ("taken()", flood.taken), ("columns()", 6), ("valleys()", 2)]:
            self.check_value(text, str(expected), flood)
        flood.rain(30)
        for name in ("stored", "left", "right", "taken"):
            self.check_value(name + "()", str(getattr(flood, name)), flood)
        self.check_value("valleys()", "0", Flood(Profile([1, 2])))

    def test_calls_for_columns_and_valleys(self):
        flood = wet_flood()
        for column in range(6):
            self.check_value(f"depth({column})", str(flood.depth(column)), flood)
            self.check_value(f"surface({column})", str(flood.surface(column)), flood)
            self.check_value(f"surface({2 * column} / 2)", str(flood.surface(column)), flood)
        for valley in range(2):
            self.check_value(f"level({valley})", str(flood.levels()[valley]), flood)
            self.check_value(f"full({valley})", str(int(flood.is_full(valley))), flood)
        flood = Flood(Profile([9, 0, 4, 1, 9]))
        flood.pour(1, 4)
        self.check_prints("print full(0); print full(1)", ["1", "0"], flood)

    def test_calls_for_numbers(self):
        for text, expected in [("floor(7/2)", "3"), ("floor(-7/2)", "-4"), ("floor(5)", "5"), ("abs(-1/3)", "1/3"),
                               ("abs(2)", "2"), ("min(1/2, 1/3)", "1/3"), ("min(1/3, 1/2)", "1/3"), ("min(2, 2)", "2"),
                               ("max(1/2, 1/3)", "1/2"), ("max(-5, -7)", "-5"), ("max(-7, -5)", "-5"),
                               ("max(0, 0)", "0"), ("max(min(1, 2), abs(floor(-5/2)))", "3")]:
            self.check_value(text, expected)


class ErrorsTest(RunCase):
    def test_those_of_parse_script_come_first(self):
        for text, line in [("rain", 1), ("rain 1\n\n!", 3), ("\n}", 2), ("if 1 {\n", 2), (" " * 4001, None),
                           (None, None), (b"rain 1", None), (["rain 1"], None), (5, None), (True, None),
                           (Thing(), None)]:
            for limit in (1, 0, None):
                self.check_fails(ScriptError, "line", line, text, limit=limit)

    def test_limits(self):
        for limit in [*no_integers(), 0, -1, 10001, HUGE, Ratio(5)]:
            self.check_fails(InvalidNumber, "value", limit, "", limit=limit)
            self.check_fails(InvalidNumber, "value", limit, "print x", limit=limit)
        for limit in (1, 2, 9999, 10000):
            self.check_prints("print 1", ["1"], limit=limit)
        self.check_prints("", [], limit=1)

    def test_unknown_names(self):
        for text in ["print x", "x = x", "x = x + 1", "rain 1; if x { }", "repeat 2 { rain x }",
                     "while 1 { pour 1, x }", "if 0 { x = 1 }; print x", "repeat 0 { x = 1 }; print x",
                     "print depth(x)", "print -x", "print not x"]:
            self.check_fails(UnknownName, "name", "x", text)
        self.check_fails(UnknownName, "name", "depth", "print depth")
        self.check_fails(UnknownName, "name", "a", "print a + b")
        self.check_fails(UnknownName, "name", "b", "pour b, a")

    def test_division_by_0(self):
        for text in ["print 1/0", "print 0/0", "rain 1 / (2 - 2)", "a = 5 / stored() / 0", "print 1 / (0/3)"]:
            self.check_fails(InvalidNumber, "value", Ratio(0), text)

    def test_numbers_of_rounds(self):
        for text, value in [("1/2", Ratio(1, 2)), ("-1", Ratio(-1)), ("-1/2", Ratio(-1, 2)), ("7/3", Ratio(7, 3))]:
            self.check_fails(InvalidNumber, "value", value, f"rain 1; repeat {text} {{ rain 1 }}")

    def test_columns_and_valleys(self):
        for text, value in [("6", Ratio(6)), ("-1", Ratio(-1)), ("1/2", Ratio(1, 2)), ("9" * 60, Ratio(10 ** 60 - 1)),
                            ("-1/2", Ratio(-1, 2)), ("11/2", Ratio(11, 2))]:
            for call in ("print depth({})", "print surface({})", "pour {}, 1", "pump {}, 1", "pour {}, -1",
                         "pump {}, -1"):
                self.check_fails(InvalidColumn, "value", value, "rain 1\n" + call.format(text))
        for text, value in [("2", Ratio(2)), ("-1", Ratio(-1)), ("1/2", Ratio(1, 2)), ("5", Ratio(5))]:
            for call in ("print level({})", "print full({})"):
                self.check_fails(InvalidValley, "value", value, "rain 1\n" + call.format(text))
        self.check_fails(InvalidValley, "value", Ratio(0), "print level(0)", Flood(Profile([1, 2])))

    def test_amounts(self):
        for text in ["rain -1/2", "dry -1/2", "pour 1, -1/2", "pump 1, -1/2", "pump 0, -1/2"]:
            self.check_fails(InvalidNumber, "value", Ratio(-1, 2), "rain 1; dry 1; " + text)

    def test_operands_from_left_to_right_before_they_are_checked(self):
        for text, name in [("pour 99, x", "x"), ("pour y, x", "y"), ("pump -1, x", "x"), ("print 1/0 + x", None),
                           ("print x + 1/0", "x"), ("print depth(99) + x", "column"), ("print min(x, 1/0)", "x"),
                           ("print max(1/0, x)", None), ("print 5 / (0 * x)", "x"), ("print x / 0", "x"),
                           ("pour 1/0, x", None), ("print (1/0 < x) < y", None), ("print depth(1/0)", None),
                           ("print level(99 + x)", "x"), ("pour 99, 1/0", None)]:
            if name is None:
                self.check_fails(InvalidNumber, "value", Ratio(0), text)
            elif name == "column":
                self.check_fails(InvalidColumn, "value", Ratio(99), text)
            else:
                self.check_fails(UnknownName, "name", name, text)

    def test_nothing_is_done_if_something_fails(self):
        for text in ["rain 1; pour 1, 5; dry 1/2; pump 1, 1; print 1/0", "repeat 50 { rain 1 }; rain -1",
                     "n = 9; while n { rain n; n = n - 1 }; print x"]:
            flood = wet_flood()
            before = content(flood)
            with self.assertRaises((InvalidNumber, UnknownName)):
                run_script(flood, text)
            self.check_unchanged(flood, before)


class StepsTest(RunCase):
    def check_steps(self, text, steps):
        """The script performs so many steps: it keeps this limit, but not one less."""
        if steps > 0:
            run_script(wet_flood(), text, limit=steps)
        for limit in {1, steps // 2, steps - 1}:
            if 1 <= limit < steps:
                self.check_fails(LimitExceeded, "limit", limit, text, limit=limit)

    def test_the_beginning_of_each_statement_and_of_each_round(self):
        for text, steps in [("", 0), ("rain 1", 1), ("rain 1; dry 1; a = 1", 3), ("if 1 { }", 1),
                            ("if 0 { rain 1 }", 1), ("if 1 { rain 1; rain 1 }", 3), ("if 0 { } else { rain 1 }", 2),
                            ("repeat 0 { rain 1 }", 1), ("repeat 3 { }", 4), ("repeat 3 { rain 1 }", 7),
                            ("repeat 2 { repeat 2 { a = 1 } }", 13), ("while 0 { rain 1 }", 1),
                            ("n = 3; while n { n = n - 1 }", 8), ("n = 1; while n { n = 0 }", 4),
                            ("n = 2; while n { n = n - 1; if n { repeat 2 { } } }", 11)]:
            self.check_steps(text, steps)

    def test_1000_without_a_limit(self):
        self.check_prints("n = 0; repeat 997 { }; print n", ["0"])
        self.check_prints("repeat 499 { a = 1 }; print 3", ["3"])
        self.check_fails(LimitExceeded, "limit", 1000, "n = 0; n = 0; repeat 997 { }; print n")
        self.check_fails(LimitExceeded, "limit", 1000, "while 1 { }")
        self.check_fails(LimitExceeded, "limit", 1000, "repeat 1000 { }")
        self.check_prints("repeat 999 { }", [])

    def test_the_greatest_limit(self):
        self.check_prints("repeat 9998 { }; print 1", ["1"], limit=10000)
        self.check_fails(LimitExceeded, "limit", 10000, "repeat 9999 { }; print 1", limit=10000)

    def test_very_many_rounds(self):
        self.check_fails(LimitExceeded, "limit", 7, "repeat " + "9" * 60 + " { }", limit=7)
        self.check_fails(LimitExceeded, "limit", 10000, "repeat " + "9" * 60 + " { repeat 5 { } }", limit=10000)

    def test_the_moment_of_the_error(self):
        """What comes before one step too many raises its own errors, and what comes behind it none."""
        self.check_fails(UnknownName, "name", "x", "a = 1; a = x; a = y", limit=2)
        self.check_fails(LimitExceeded, "limit", 2, "a = 1; a = 2; a = y", limit=2)
        self.check_fails(LimitExceeded, "limit", 1, "if 1 { a = x }", limit=1)
        self.check_fails(UnknownName, "name", "x", "if x { a = y }", limit=1)
        self.check_fails(InvalidNumber, "value", Ratio(1, 2), "repeat 1/2 { }", limit=1)
        self.check_fails(LimitExceeded, "limit", 1, "repeat 1 { a = x }", limit=1)
        self.check_fails(LimitExceeded, "limit", 2, "repeat 1 { a = x }", limit=2)
        self.check_fails(UnknownName, "name", "x", "repeat 1 { a = x }", limit=3)
        self.check_fails(LimitExceeded, "limit", 1, "while 1 { a = x }", limit=1)
        self.check_fails(InvalidNumber, "value", Ratio(0), "a = 1; while 1 / a { a = 0 }", limit=4)
        self.check_fails(LimitExceeded, "limit", 3, "a = 1; while 1 / a { a = 0 }", limit=3)
        self.check_fails(LimitExceeded, "limit", 4, "a = 1; while 1 { a = 0 }", limit=4)

    def test_nothing_is_changed(self):
        flood = wet_flood()
        before = content(flood)
        self.check_error(LimitExceeded, "limit", 3, run_script, flood, "while 1 { rain 1 }", limit=3)
        self.check_unchanged(flood, before)


class DrawnTest(RunCase):
    def check_like_interpreter(self, flood, statements, text, limit):
        """The same results, the same flood and the same error as a second program that knows no texts."""
        before = content(flood)
        other = Interpreter(flood.clone(), limit)
        try:
            other.block(statements)
        except Stop as stop:
            kind = getattr(errors, stop.name)
            with self.assertRaises(kind) as caught:
                run_script(flood, text, limit=limit)
            self.assertIs(caught.exception.__class__, kind)
            (kept,) = [getattr(caught.exception, field) for field in ("value", "name", "limit")
                       if hasattr(caught.exception, field)]
            if stop.name in ("InvalidNumber", "InvalidColumn", "InvalidValley"):
                self.assertIs(kept.__class__, Ratio)
                self.assertEqual(fraction(kept), stop.field)
            else:
                self.assertEqual(kept, stop.field)
            self.check_unchanged(flood, before)
            return stop.name
        found = run_script(flood, text, limit=limit)
        self.assertEqual(fractions(found), other.printed)
        self.assertEqual([flood, content(flood)], [other.flood, content(other.flood)])
        return "done"

    def test_drawn_scripts(self):
        chance = random.Random(1)
        outcomes = {}
        for profile in random_profiles(1, 250) + [profile for name, profile in edge_profiles()]:
            flood = flooded(profile, chance, 2)
            for _ in range(3):
                start = [("set", None, name, ("number", chance.randint(0, 5))) for name in "ab"]
                text, known = written(chance, start + self.tamed(chance, block(chance, 2, ["a", "b"])))
                if len(text) <= 4000:
                    outcome = self.check_like_interpreter(flood, known, text, chance.choice([5, 20, 60]))
                    outcomes[outcome] = outcomes.get(outcome, 0) + 1
        for name in ("done", "LimitExceeded", "InvalidNumber", "InvalidColumn", "InvalidValley"):
            self.assertGreater(outcomes.get(name, 0), 10, outcomes)

    def tamed(self, chance, statements):
        """The statements with smaller numbers, so that there is more than one round and more than one error."""
        found = []
        for word, line, *parts in statements:
            if word in ("rain", "dry"):
                parts = [("binary", "/", ("call", "abs", [parts[0]]), ("number", chance.randint(1, 9)))]
            elif word in ("pour", "pump"):
                parts = [("number", chance.randint(0, 3)), ("call", "abs", [parts[1]])]
            elif word == "repeat":
                parts = [("number", chance.randint(0, 4)), self.tamed(chance, parts[1])]
            elif word == "while":
                parts = [("binary", "<", ("name", "a"), ("number", 9)),
                         [("set", None, "a", ("binary", "+", ("name", "a"), ("number", 3))),
                          *self.tamed(chance, parts[1])]]
            elif word == "if":
                parts = [parts[0], *[self.tamed(chance, part) for part in parts[1:]]]
            found.append((word, line, *parts))
        return found

    def test_drawn_expressions(self):
        chance = random.Random(2)
        outcomes = {}
        for _ in range(1500):
            flood = wet_flood()
            tree = expression(chance, 4, [])
            text = script_text([("print", 1, tree)])
            outcome = self.check_like_interpreter(flood, [("print", 1, tree)], text, 1)
            outcomes[outcome] = outcomes.get(outcome, 0) + 1
        self.assertGreater(outcomes["done"], 300, outcomes)
        self.assertEqual(len(CALLS), 14)

    def test_operations_as_scripts(self):
        """The same operations as a script and on another flood."""
        chance = random.Random(3)
        for profile in random_profiles(3, 80):
            flood, other, lines = Flood(profile), Flood(profile), []
            for word, arguments in operations(chance, profile, 6):
                if word == "rain":
                    arguments = (arguments[0], None)
                found = perform(other, (word, arguments))
                numbers = [str(part) for part in arguments if part is not None]
                lines.append(word + " " + ", ".join(numbers))
                self.assertIsNotNone(found)
            self.check_prints("\n".join(lines), [], flood)
            self.assertEqual([flood, content(flood)], [other, content(other)])

    def test_a_script_and_its_text_do_the_same(self):
        chance = random.Random(4)
        for _ in range(100):
            text, known = written(chance, [("set", None, "a", ("number", 2))] + block(chance, 2, ["a"]))
            again = script_text(parse_script(text)) if len(text) <= 4000 else ""
            if "" != again and len(again) <= 4000:
                results = []
                for script in (text, again):
                    flood = wet_flood()
                    try:
                        results.append([run_script(flood, script, limit=30), content(flood)])
                    except (errors.RainError, InvalidColumn, InvalidValley, LimitExceeded, UnknownName) as error:
                        results.append([error.__class__, str(vars(error)), content(flood)])
                self.assertEqual(results[0], results[1])


class LimitsTest(RunCase):
    def test_the_deepest_expressions(self):
        self.check_value("1" + " + 1" * 100, "101")
        self.check_value("1" + " - 1" * 100, "-99")
        self.check_value("(" * 20 + "1" + " + 1)" * 20 + " * 2" * 80, str(21 * 2 ** 80))
        self.check_value("1 - (" * 20 + "1" + ")" * 20, "1")
        self.check_value("abs(" * 20 + "-1" + ")" * 20, "1")
        self.check_value("1 or " * 99 + "x", "1")
        self.check_value(" and ".join(["1"] * 101), "1")

    def test_the_deepest_blocks(self):
        text = "repeat 1 { " * 20 + "print 1" + " + 1" * 100 + " }" * 20
        self.check_prints(text, ["101"])
        self.check_prints("if 1 { " * 20 + "print 1" + " }" * 20, ["1"])
        self.check_prints("if 0 { } else { " * 20 + "print 1" + " }" * 20, ["1"])
        self.check_prints("n = 1; " + "while n { " * 19 + "n = 0" + " }" * 19 + "; print n", ["0"])

    def test_a_long_script(self):
        flood, other = Flood(PIT), Flood(PIT)
        run_script(flood, "rain 1/7\n" * 444)
        other.rain(Ratio(444, 7))
        self.assertEqual(flood, other)

    def test_large_profiles_and_numbers(self):
        chance = random.Random(5)
        profile = Profile([chance.randint(-HUGE, HUGE) for _ in range(60)],
                          [chance.randint(1, HUGE) for _ in range(60)])
        flood, other = Flood(profile), Flood(profile)
        number = "9" * 60
        run_script(flood, f"rain {number} / 7{number[:58]}; pour 31, {number}; pump 31, 1 / {number}; dry 1/3")
        other.rain(Ratio(int(number), int("7" + number[:58])))
        other.pour(31, int(number))
        other.pump(31, Ratio(1, int(number)))
        other.dry(Ratio(1, 3))
        self.assertEqual(flood, other)
        self.check_prints("print surface(59) + level(0); print depth(59)",
                          [str(other.surface(59) + other.levels()[0]), str(other.depth(59))], flood)

    def test_values_that_are_no_columns_of_large_profiles(self):
        flood = Flood(Profile(list(range(60))))
        self.check_value("depth(59)", "0", flood)
        self.check_fails(InvalidColumn, "value", Ratio(60), "print depth(60)", flood)


if __name__ == "__main__":
    unittest.main()
