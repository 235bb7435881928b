"""Reading and writing scripts."""

import copy
import random
import unittest

from cases import Case
from drawn_scripts import block, expression, without_lines, written
from rainvalleys.errors import ScriptError
from rainvalleys.profiles import Profile
from rainvalleys.ratios import Ratio
from rainvalleys.scripts import parse_script, script_text, tokens
from samples import Thing
from script_oracle import token_list, wrong_line

# Words and signs of scripts, from which wrong ones are drawn.
PIECES = ("rain pour pump dry print if else repeat while and or not a b depth min stored foo abs 1 007 "
          "+ - * / ( ) { } , = < <= > >= == != ; \n").split(" ")


def one(text):
    """The only statement of a script."""
    statements = parse_script(text)
    assert len(statements) == 1, statements
    return statements[0]


def value(text):
    """An expression."""
    return one("x = " + text)[3]


def show(tree):
    """An expression with a bracket around each operator."""
    kind, *parts = tree
    if kind in ("number", "name"):
        return str(parts[0])
    if kind == "call":
        return parts[0] + "(" + ", ".join(show(part) for part in parts[1]) + ")"
    if kind == "binary":
        return f"[{show(parts[1])} {parts[0]} {show(parts[2])}]"
    return f"[{'-' if kind == 'minus' else 'not '}{show(parts[0])}]"


class ScriptCase(Case):
    def check_wrong(self, line, text, function=parse_script):
        self.check_error(ScriptError, "line", line, function, text)

    def check_wrong_everywhere(self, text):
        """The text is no script, whatever lines stand before and behind it."""
        self.check_wrong(1, text)
        self.check_wrong(4, "a = 1\n\n\n" + text)
        self.check_wrong(1, text + "\nb = 2\n")


class TokensTest(ScriptCase):
    def check_tokens(self, text, expected):
        found = tokens(text)
        self.assertIs(found.__class__, list)
        self.assertEqual(found, expected)
        for token in found:
            self.assertIs(token.__class__, tuple)
            self.assertEqual([part.__class__ for part in token], [int, str, str])

    def parts(self, text):
        return [token for line, kind, token in tokens(text)]

    def test_kinds_and_lines(self):
        self.check_tokens("a<=b;\n  c # d\tX\n 12a\n\n)", [
            (1, "name", "a"), (1, "symbol", "<="), (1, "name", "b"), (1, "end", ";"), (1, "end", "\n"),
            (2, "name", "c"), (2, "end", "\n"), (3, "number", "12"), (3, "name", "a"), (3, "end", "\n"),
            (4, "end", "\n"), (5, "symbol", ")")])

    def test_nothing(self):
        for text in ["", " ", "      ", "#", "# rain", "   # \t A ; \u00e4"]:
            self.check_tokens(text, [])

    def test_each_symbol(self):
        symbols = "+ - * / ( ) { } , = < <= > >= == !=".split()
        self.check_tokens(" ".join(symbols), [(1, "symbol", symbol) for symbol in symbols])

    def test_the_longest_symbol_counts(self):
        for text, expected in [("<=", ["<="]), ("<==", ["<=", "="]), ("===", ["==", "="]), ("====", ["==", "=="]),
                               ("!==", ["!=", "="]), ("=<", ["=", "<"]), ("=>=", ["=", ">="]), (">==", [">=", "="]),
                               ("=!=", ["=", "!="]), ("< =", ["<", "="]), ("= =", ["=", "="]), ("<>", ["<", ">"]),
                               ("<<=", ["<", "<="]), ("--", ["-", "-"]), ("=-1", ["=", "-", "1"])]:
            self.assertEqual(self.parts(text), expected)

    def test_long_names_and_numbers_are_several(self):
        for many in range(1, 40):
            parts = self.parts("abcdefghijklmnopqrstuvwxyzabcdefghijklmnopqrstuvwxyz"[:many])
            self.assertEqual([len(part) for part in parts], [12] * (many // 12) + [many % 12] * (many % 12 > 0))
        self.check_tokens("a" * 13, [(1, "name", "a" * 12), (1, "name", "a")])
        self.check_tokens("1" * 61, [(1, "number", "1" * 60), (1, "number", "1")])
        self.check_tokens("0" * 60, [(1, "number", "0" * 60)])
        self.check_tokens("1" * 130, [(1, "number", "1" * 60), (1, "number", "1" * 60), (1, "number", "1" * 10)])

    def test_names_and_numbers_side_by_side(self):
        self.assertEqual(self.parts("a1b22 0c(3"), ["a", "1", "b", "22", "0", "c", "(", "3"])
        self.assertEqual(self.parts("rain1"), ["rain", "1"])

    def test_reserved_words_are_names(self):
        words = "rain pour pump dry print if else repeat while and or not".split()
        self.check_tokens(" ".join(words), [(1, "name", word) for word in words])

    def test_remarks(self):
        self.check_tokens("a#b\n#\n#;\nc ## d # e\n", [
            (1, "name", "a"), (1, "end", "\n"), (2, "end", "\n"), (3, "end", "\n"), (4, "name", "c"), (4, "end", "\n")])
        self.assertEqual(self.parts("a # ! \t ABC . @ \u20ac\nb"), ["a", "\n", "b"])

    def test_characters_that_belong_to_no_token(self):
        for sign in "\tA.!@$&^~|\\'\"[]?:_`\u00e4\u0663\r\f\u00a0":
            self.check_wrong(1, sign, tokens)
            self.check_wrong(3, "a\n# \t A\n  " + sign + "\n!", tokens)
            self.check_wrong(2, "rain\n1" + sign, tokens)
            self.check_wrong(2, "rain\n1" + sign, parse_script)
        for text in ["!", "! =", "a!b", "!!=", "=!", "<!"]:
            self.check_wrong(1, text, tokens)

    def test_the_first_wrong_character(self):
        self.check_wrong(1, "!\n\n\t", tokens)
        self.check_wrong(3, "\n;\n\t\n!", tokens)

    def test_4000_characters(self):
        for text in ["a" * 4000, " " * 4000, "#" * 4000, "\n" * 4000]:
            tokens(text)
            self.check_wrong(None, text + text[0], tokens)
            self.check_wrong(None, text + text[0], parse_script)
        self.check_tokens(" " * 3999 + "+", [(1, "symbol", "+")])
        self.check_wrong(None, "!" * 4001, tokens)
        self.check_wrong(None, "x" * 20000, tokens)

    def test_values_of_other_kinds(self):
        for given in [None, True, 0, b"rain 1", [], ["rain 1"], (), {}, {"a"}, Thing(), Ratio(1), Profile([1])]:
            for function in (tokens, parse_script):
                self.check_wrong(None, given, function)

    def test_drawn_texts(self):
        chance = random.Random(1)
        signs = "abz019 \n;#\t!<>=+-(){},A*/"
        for _ in range(1500):
            text = "".join(chance.choice(signs) for _ in range(chance.randint(0, 25)))
            expected = token_list(text)
            if isinstance(expected, int):
                self.check_wrong(expected, text, tokens)
            else:
                self.check_tokens(text, expected)

    def test_a_new_list_each_time(self):
        text = "a = 1"
        tokens(text).clear()
        self.assertEqual(len(tokens(text=text)), 3)


class StatementsTest(ScriptCase):
    def test_example_of_the_document(self):
        self.assertEqual(parse_script("a = -b * 2"), [
            ("set", 1, "a", ("binary", "*", ("minus", ("name", "b")), ("number", 2)))])

    def test_each_statement(self):
        number, name = ("number", 1), ("name", "a")
        for text, expected in [
                ("rain 1", ("rain", 1, number)), ("dry a", ("dry", 1, name)), ("print 1", ("print", 1, number)),
                ("pour a, 1", ("pour", 1, name, number)), ("pump 1,a", ("pump", 1, number, name)),
                ("b = 1", ("set", 1, "b", number)), ("if a { }", ("if", 1, name, [], [])),
                ("if a { b = 1 } else { dry a }", ("if", 1, name, [("set", 1, "b", number)], [("dry", 1, name)])),
                ("repeat 1 { dry a; rain 1 }", ("repeat", 1, number, [("dry", 1, name), ("rain", 1, number)])),
                ("while a{}", ("while", 1, name, [])), ("if a { } else { }", ("if", 1, name, [], []))]:
            self.assertEqual(parse_script(text), [expected])
            self.assertEqual(parse_script("\n\n  " + text + " ;"), [(expected[0], 3, *one("\n\n" + text)[2:])])

    def test_kinds_of_values(self):
        found = parse_script("if a { repeat min(1, 2) { print -a } } else { pour not 1, 2 < 3 }")
        self.assertEqual([found.__class__, found[0].__class__], [list, tuple])
        word, line, condition, first, second = found[0]
        self.assertEqual([condition.__class__, first.__class__, second.__class__], [tuple, list, list])
        self.assertEqual([first[0].__class__, first[0][2].__class__, first[0][2][2].__class__], [tuple, tuple, list])

    def test_nothing(self):
        for text in ["", " ", "\n", ";", ";;\n ; \n", "# rain", "\n#\n"]:
            self.assertEqual(parse_script(text), [])

    def test_separators(self):
        expected = [("set", None, "a", ("number", 1)), ("set", None, "b", ("number", 2))]
        for text in ["a=1;b=2", "a=1\nb=2", ";a=1;;b=2;", "\n\n;a=1;\n;\nb=2\n", "a=1;#\nb=2", "a=1 # ;\n b=2 ;#\n"]:
            self.assertEqual(without_lines(parse_script(text)), expected)
            for inside in ("repeat 3 {" + text + "}", "repeat 3 {\n;" + text + "\n;}", "repeat 3 {" + text + ";}"):
                self.assertEqual(without_lines(parse_script(inside)), [("repeat", None, ("number", 3), expected)])

    def test_lines(self):
        text = "a = 1 # x\n\n  if a {\n  b = 2; repeat\tb {\n\n\n dry 1 } ; c = 3 } else { d = 4\ne = 5\n}; f = 6\n"
        self.assertEqual(parse_script(text.replace("\t", " ")), [
            ("set", 1, "a", ("number", 1)),
            ("if", 3, ("name", "a"), [
                ("set", 4, "b", ("number", 2)), ("repeat", 4, ("name", "b"), [("dry", 7, ("number", 1))]),
                ("set", 7, "c", ("number", 3))],
             [("set", 7, "d", ("number", 4)), ("set", 8, "e", ("number", 5))]),
            ("set", 9, "f", ("number", 6))])

    def test_a_separator_between_statements(self):
        for text in ["a = 1 b = 2", "rain 1 rain 1", "if 1 { } a = 1", "while 1 { } rain 1", "if 1 { } else { } dry 1",
                     "repeat 1 { } { }", "a = 1 }", "repeat 2 { a = 1 b = 2 }"]:
            self.check_wrong_everywhere(text)

    def test_a_statement_has_no_line_feed_outside_its_blocks(self):
        for text in ["rain\n1", "a\n= 1", "a =\n1", "a = 1 +\n1", "a = (1\n)", "pour 1\n, 2", "pour 1,\n2", "if 1\n{ }",
                     "while\n1 { }", "a = min(1,\n2)", "a = depth\n(1)", "print -\n1", "print not\n1"]:
            self.check_wrong(2 if text.startswith("a = depth") else 1, text)
            self.check_wrong(1, text.replace("\n", ";"))
        self.check_wrong(3, "if 1 {\n}\nelse { }")
        self.check_wrong(1, "if 1 { }; else { }")
        self.check_wrong(2, "if 1 { } #\n else { }")

    def test_else_only_behind_the_closing_bracket_of_if(self):
        for text in ["else { }", "repeat 1 { } else { }", "while 1 { } else { }", "if 1 else { }", "a = 1 else { }",
                     "if 1 { } else { } else { }", "if 1 { } else if 1 { }", "if 1 { } else rain 1", "if 1 { else }"]:
            self.check_wrong_everywhere(text)
        self.assertEqual(one("if 1 {\n\n} else {\n}"), ("if", 1, ("number", 1), [], []))

    def test_reserved_words_are_no_variables(self):
        for word in "rain pour pump dry print if else repeat while and or not".split():
            self.check_wrong_everywhere(word + " = 1")
            self.check_wrong_everywhere("a = " + word)
            self.check_wrong_everywhere("a = 1 + " + word)
            self.check_wrong_everywhere("a = min(1, " + word + ")")

    def test_names_of_calls_are_variables(self):
        for name in "stored left right taken columns valleys depth surface level full floor abs min max".split():
            self.assertEqual(one(name + " = " + name), ("set", 1, name, ("name", name)))
            self.assertEqual(value(name + " + 1"), ("binary", "+", ("name", name), ("number", 1)))
        self.assertEqual(value("min(min, 1)"), ("call", "min", [("name", "min"), ("number", 1)]))

    def test_words_that_begin_like_reserved_ones(self):
        for name in ["rainy", "printer", "iff", "ands", "nota", "elses", "r", "whil"]:
            self.assertEqual(one(name + " = " + name), ("set", 1, name, ("name", name)))
        self.assertEqual(one("rain1"), ("rain", 1, ("number", 1)))
        self.assertEqual(one("print-1"), ("print", 1, ("minus", ("number", 1))))
        self.assertEqual(one("rain(1)"), ("rain", 1, ("number", 1)))

    def test_wrong_beginnings(self):
        for text in ["1", "(a) = 1", "+", "= 1", ", 1", "{ }", "}", "a", "a 1", "a == 1", "a + 1", "depth(1)",
                     "a, b = 1", "a = b = 1", "a = 1, 2", "rain", "rain,", "rain 1, 2", "pour 1", "pour 1 2",
                     "pour 1, 2, 3", "pour , 1", "dry { }", "print", "print 1 2", "if { }", "if 1", "repeat 3",
                     "repeat { }", "while 1 rain 1", "if 1 { rain 1", "rain = 1", "a = ()", "a = (1", "a = 1)",
                     "a = (1}", "if (1 { }", "a = {1}"]:
            self.check_wrong(1, text)
            self.check_wrong(3, "\n\n" + text)

    def test_a_new_list_each_time(self):
        text = "repeat 1 { a = min(1, 2) }"
        found = parse_script(text)
        found[0][3][0][3][2].clear()
        found[0][3].clear()
        found.clear()
        self.assertEqual(parse_script(text=text), [
            ("repeat", 1, ("number", 1), [("set", 1, "a", ("call", "min", [("number", 1), ("number", 2)]))])])


class ExpressionsTest(ScriptCase):
    def test_strengths(self):
        for text, expected in [
                ("1 + 2 * 3", "[1 + [2 * 3]]"), ("1 * 2 + 3", "[[1 * 2] + 3]"), ("(1 + 2) * 3", "[[1 + 2] * 3]"),
                ("-a * b", "[[-a] * b]"), ("a * -b", "[a * [-b]]"), ("a - -b", "[a - [-b]]"), ("-a - b", "[[-a] - b]"),
                ("-(a * b)", "[-[a * b]]"), ("-(-a)", "[-[-a]]"), ("-min(a, b)", "[-min(a, b)]"),
                ("a < b + 1", "[a < [b + 1]]"), ("a + 1 < b", "[[a + 1] < b]"), ("a and b or c", "[[a and b] or c]"),
                ("a or b and c", "[a or [b and c]]"), ("(a or b) and c", "[[a or b] and c]"),
                ("not a and b", "[[not a] and b]"), ("not (a and b)", "[not [a and b]]"),
                ("not a < b", "[not [a < b]]"), ("not a + b", "[not [a + b]]"), ("a and not b", "[a and [not b]]"),
                ("a or not b or c", "[[a or [not b]] or c]"), ("not (not a)", "[not [not a]]"),
                ("(not a) + b", "[[not a] + b]"), ("(a < b) < c", "[[a < b] < c]"), ("a < (b < c)", "[a < [b < c]]"),
                ("a < b and c < d", "[[a < b] and [c < d]]"),
                ("not a < b or not c == d and e", "[[not [a < b]] or [[not [c == d]] and e]]"), ("((a))", "a"),
                ("-(1)", "[-1]"), ("- 1", "[-1]"), ("(a) (", None)]:
            if expected is None:
                self.check_wrong(1, "x = " + text)
            else:
                self.assertEqual(show(value(text)), expected)

    def test_from_left_to_right(self):
        for signs in (["+", "-"], ["*", "/"], ["and"], ["or"]):
            for first in signs:
                for second in signs:
                    self.assertEqual(show(value(f"a {first} b {second} c")), f"[[a {first} b] {second} c]")
                    self.assertEqual(show(value(f"a {first} (b {second} c)")), f"[a {first} [b {second} c]]")

    def test_one_comparison_only(self):
        signs = ["<", "<=", ">", ">=", "==", "!="]
        for first in signs:
            self.assertEqual(show(value(f"a+1 {first} b*2")), f"[[a + 1] {first} [b * 2]]")
            for second in signs:
                self.check_wrong_everywhere(f"x = a {first} b {second} c")
                self.check_wrong_everywhere(f"x = not a {first} b {second} c")
                self.check_wrong_everywhere(f"x = d and a {first} b + 1 {second} c")

    def test_not_and_minus(self):
        for text in ["not not a", "--a", "- - a", "-not a", "not", "-", "a + not b", "a * not b", "a < not b", "- -1",
                     "not a < not b", "-(-)", "a not b", "a -", "(not) a", "a - - - b", "not -- a", "+a", "a ++ b",
                     "a * / b"]:
            self.check_wrong_everywhere("x = " + text)
        self.assertEqual(show(value("not -a")), "[not [-a]]")
        self.assertEqual(show(value("not a - -b")), "[not [a - [-b]]]")

    def test_numbers_may_begin_with_0(self):
        for text in ["7", "07", "0007", "0" * 59 + "7"]:
            self.assertEqual(value(text), ("number", 7))
        self.assertEqual([value("0"), value("000")], [("number", 0)] * 2)
        self.assertEqual(value("9" * 60), ("number", 10 ** 60 - 1))
        self.check_wrong_everywhere("x = " + "0" * 61)
        self.check_wrong_everywhere("x = " + "a" * 13)
        self.check_wrong_everywhere("x" * 13 + " = 1")
        self.assertIs(value("7")[1].__class__, int)

    def test_calls(self):
        for name in "stored left right taken columns valleys".split():
            self.assertEqual(value(name + "()"), ("call", name, []))
            self.assertEqual(value(name + " ( )"), ("call", name, []))
        for name in "depth surface level full floor abs".split():
            self.assertEqual(value(name + "(a + 1)"), ("call", name, [("binary", "+", ("name", "a"), ("number", 1))]))
        for name in ("min", "max"):
            self.assertEqual(value(name + "(a,1 or 2)"),
                             ("call", name, [("name", "a"), ("binary", "or", ("number", 1), ("number", 2))]))

    def test_wrong_numbers_of_arguments_and_unknown_calls(self):
        for name, many in [("stored", 0), ("valleys", 0), ("depth", 1), ("abs", 1), ("min", 2), ("max", 2),
                           ("foo", None), ("sqrt", None), ("a", None), ("rainy", None), ("stor", None)]:
            for given in range(5):
                text = f"x = {name}({', '.join(['1'] * given)})"
                if given == many:
                    parse_script(text)
                else:
                    self.check_wrong_everywhere(text)
        for text in ["min(1,)", "min(,1)", "min(1 2)", "min(,)", "min(1,2,)", "depth(", "depth(1", "depth(1,", "abs(1}",
                     "stored(,)", "min((1, 2))", "foo(", "foo(1"]:
            self.check_wrong_everywhere("x = " + text)


class WrongScriptsTest(ScriptCase):
    def test_the_end_of_an_incomplete_script(self):
        for text in ["if 1 {", "if 1 { a = 1", "repeat 2 {\nrain 1\n", "while 1 {\n\n\n", "if 1 {\n} else {\n\n# }",
                     "a = 1\nif 1 { repeat 2 { }", "rain", "a = 1\nrain", "a = 1; b", "print 1 +", "\n\npour 1,",
                     "a = min(1", "print (", "if 1 { }\nif 1", "if 1 { } else"]:
            self.check_wrong(1 + text.count("\n"), text)
            if text.endswith(("{", "\n", "}")) or "#" in text:
                self.check_wrong(3 + text.count("\n"), text + "\n\n")

    def test_the_first_wrong_token(self):
        for line, text in [(2, "a = 1\nb 2\nc 3\n"), (3, "if 1 {\na = 1\n} b = 1\n"), (3, "if 1 {\n a = 1\n ) \n}"),
                           (4, "repeat 2 {\n\n\n else { }"), (2, "repeat 2 {\n}}"), (5, "if 1 {\n}\n\n;\n}\n"),
                           (2, "if 1 { a = 1\n if { } }"), (2, "\n}\n\n"), (3, "a = 1;\n;\nb = ;\n")]:
            self.check_wrong(line, text)

    def test_characters_come_before_tokens(self):
        self.check_wrong(3, "a a a\n\n\t")
        self.check_wrong(2, "}\n!")

    def test_20_brackets(self):
        for opening, closing in [("(", ")"), ("abs(", ")"), ("min(1, ", ")")]:
            parse_script("x = " + opening * 20 + "1" + closing * 20)
            self.check_wrong_everywhere("x = " + opening * 21 + "1" + closing * 21)
        parse_script("repeat 1 {\n" * 20 + "}" * 20)
        self.check_wrong(21, "repeat 1 {\n" * 21 + "}" * 21)
        self.check_wrong(21, "repeat 1 {\n" * 20 + "if 1 { }" + "}" * 20)
        parse_script("if 1 { } else {\n" * 20 + "}" * 20)
        self.check_wrong(21, "if 1 { } else {\n" * 21 + "}" * 21)

    def test_20_brackets_of_all_kinds(self):
        for blocks in range(21):
            rest = 20 - blocks
            text = "while 1 {\n" * blocks + "x = " + "(" * rest + "1" + ")" * rest + "}" * blocks
            parse_script(text)
            self.check_wrong(blocks + 1, text.replace("1)", "abs(1))") if rest else text.replace("= 1", "= (1)"))

    def test_brackets_that_were_closed_do_not_count(self):
        parse_script("x = " + " + ".join(["(1)"] * 101))
        parse_script("if 1 { } else { }\n" * 100)
        parse_script("repeat 1 { repeat 1 { } }\n" * 50)

    def test_unclosed_brackets_at_the_limit(self):
        self.check_wrong(1, "x = " + "(" * 20)
        self.check_wrong(1, "x = " + "(" * 21)
        self.check_wrong(1, "x = " + "(" * 3000)
        self.check_wrong(21, "repeat 1 {\n" * 20)
        self.check_wrong(21, "repeat 1 {\n" * 21)
        self.check_wrong(21, "repeat 1 {\n" * 40)
        self.check_wrong(20, "repeat 1 {\n" * 19)

    def test_100_operators_and_calls(self):
        for text in [" + ".join(["1"] * 101), " or ".join(["1"] * 101), "-1" + "-1" * 99, "-a" + " * -a" * 49 + " * a",
                     " + ".join(["stored()"] * 50) + " + 1", " and ".join(["not a"] * 50) + " and b",
                     " and ".join(["a < 1"] * 50) + " or c", "min(1, " * 20 + "1" + " + 1" * 80 + ")" * 20]:
            statement = parse_script("x = " + text)
            self.assertEqual(len(statement), 1)
            self.check_wrong_everywhere("x = " + text + " + 1")
            self.check_wrong_everywhere("x = " + text + " or 1")
            self.check_wrong_everywhere("print " + text + " * abs(1)")
            self.check_wrong_everywhere("if " + text + " / -1 { }")

    def test_100_operators_of_both_expressions_without_blocks(self):
        half = "1" + " + 1" * 50
        parse_script(f"pour {half}, {half}")
        self.check_wrong_everywhere(f"pour {half}, {half} + 1")
        self.check_wrong_everywhere(f"pump {half} + 1, {half}")
        full = "1" + " + 1" * 100
        parse_script(f"if {full} {{ a = {full}\n b = {full} }} else {{ c = {full} }}\n d = {full}")
        self.check_wrong(2, f"while {full} {{ a = {full}\n b = {full} + 1 }}")

    def test_4000_characters_are_a_script(self):
        text = "a = 1\n" * 666 + "b=2\n"
        self.assertEqual([len(text), len(parse_script(text))], [4000, 667])
        self.check_wrong(None, text + "\n")
        self.check_wrong(None, text + "!")

    def test_drawn_texts_that_may_be_wrong(self):
        """With the outcomes of a recognizer that knows nothing but the grammar."""
        chance = random.Random(2)
        right = 0
        for _ in range(900):
            text, known = written(chance, block(chance, 2, ["a", "depth"]))
            text = self.changed(chance, text) if len(text) < 400 else "rain 1"
            expected = wrong_line(text)
            right += expected is None
            if expected is None:
                parse_script(text)
            else:
                self.check_wrong(expected, text)
        self.assertTrue(100 < right < 800, right)

    def changed(self, chance, text):
        """The text with some tokens or characters inserted, replaced, removed or doubled."""
        for _ in range(chance.choice([0, 1, 1, 2])):
            at = chance.randint(0, len(text))
            length = chance.choice([0, 1, 1, 2, 5])
            piece = chance.choice(["", text[at:at + length] * 2, f" {chance.choice(PIECES)} ",
                                   chance.choice("a1 ;\n(){}")])
            text = text[:at] + piece + text[at + length:]
        return text

    def test_drawn_tokens(self):
        chance = random.Random(3)
        for _ in range(1500):
            text = " ".join(chance.choice(PIECES) for _ in range(chance.randint(1, 6)))
            text = chance.choice(["", "a = ", "if 1 { ", "print 1 + ", "pour ", "x = min(1, ", "if a { } "]) + text
            expected = wrong_line(text)
            if expected is None:
                parse_script(text)
            else:
                self.check_wrong(expected, text)


class TextTest(ScriptCase):
    def check_there_and_back(self, statements):
        before = copy.deepcopy(statements)
        text = script_text(statements)
        self.assertIs(text.__class__, str)
        self.assertEqual(statements, before)
        self.assertEqual(without_lines(parse_script(text)), without_lines(statements))
        return text

    def test_each_statement(self):
        text = ("a = -b * 2\nrain 1\ndry a\nprint 3\npour a, 1\npump 1, a\nif a {\nb = 1\n} else {\ndry a\n}\n"
                "repeat 3 {\nrain 1\n}\nwhile a {\nif b {\n}\n}")
        self.assertEqual(self.check_there_and_back(parse_script(text)).split("\n"), text.split("\n"))

    def test_nothing(self):
        self.assertEqual(script_text([]), "")

    def test_an_empty_first_block(self):
        self.check_there_and_back([("if", 1, ("number", 1), [], [("rain", 1, ("number", 1))])])
        self.check_there_and_back([("if", 1, ("number", 1), [], [])])

    def test_each_statement_on_a_line_of_its_own(self):
        chance = random.Random(4)
        for _ in range(150):
            statements = block(chance, 3)
            lines = self.check_there_and_back(statements).split("\n") if statements else []
            self.assertEqual(len([line for line in lines if not line.strip().startswith("}")]), count(statements))
            self.assertFalse(any(";" in line or "#" in line for line in lines))

    def test_parentheses_where_they_are_needed(self):
        for text in ["(a + b) * c", "a - (b - c)", "-(a + b)", "-(-a)", "not (not a)", "(a < b) == (c < d)",
                     "a < (b < c)", "(not a) + b", "(not a) * (not b)", "-(not a)", "not (a or b)", "(a or b) and c",
                     "a and (b and c)", "a / (b * c)", "a * (b / c)", "(not a) < b", "a < (not b)", "-(a < b)",
                     "abs((not a) < b)", "a + -(b + c)", "a - (-b)", "(a and b) + 1", "not (a and b) or c",
                     "min(a or b, not c)", "a or (b or c)", "(a or b) or c"]:
            statements = parse_script("x = " + text)
            again = self.check_there_and_back(statements)
            self.assertLessEqual(again.count("("), text.count("("))

    def test_no_parentheses_where_they_are_not_needed(self):
        for text in ["a + b * c", "a * b + c", "a * -b", "-a * -b", "a - -b", "-a - b", "-a", "not -a",
                     "not a and not b", "a or not b", "a or b and c", "a and b or c", "a < b and c >= d", "not a < b",
                     "not a + b == -c * d", "a - b - c", "a / b / c * d", "a and b and c", "a or b or c", "-abs(-a)",
                     "min(a or b, not c)", "depth(a + 1) * 2 < 3 and not full(0)",
                     "a == b or not c != d and e <= f + g / -h"]:
            self.assertEqual(script_text(parse_script("x = " + text)), "x = " + text)

    def test_all_parentheses_are_needed(self):
        """So no more brackets are open at a time than in any other text of the same statements."""
        chance = random.Random(7)
        for _ in range(400):
            tree = expression(chance, 4)
            text = script_text([("print", 1, tree)])
            for at, sign in enumerate(text):
                if sign == "(" and not text[at - 1].isalpha():
                    self.check_needed(text, at, tree)

    def check_needed(self, text, at, tree):
        """Without the pair of brackets that opens here the text says something else."""
        depth, end = 1, at
        while depth > 0:
            end += 1
            depth += {"(": 1, ")": -1}.get(text[end], 0)
        shorter = text[:at] + " " + text[at + 1:end] + " " + text[end + 1:]
        try:
            self.assertNotEqual(parse_script(shorter), [("print", 1, tree)])
        except ScriptError:
            pass

    def test_drawn_expressions(self):
        chance = random.Random(5)
        for _ in range(1500):
            self.check_there_and_back([("set", 1, "x", expression(chance, 3))])

    def test_drawn_scripts(self):
        chance = random.Random(6)
        for _ in range(500):
            text, known = written(chance, block(chance, 3))
            if len(text) <= 4000:
                found = parse_script(text)
                self.assertEqual(found, known)
                self.assertEqual(parse_script(text=text), found)
                if len(script_text(found)) <= 4000:
                    self.check_there_and_back(found)
                self.assertEqual(script_text(statements=found), script_text(known))

    def test_the_limits_are_kept(self):
        for text in ["x = " + "(" * 20 + "1" + ")" * 20, "x = " + "(1 + " * 20 + "1" + ")" * 20,
                     "x = " + "-(" * 20 + "1" + ")" * 20, "x = " + "not (" * 20 + "1" + ")" * 20,
                     "x = " + "abs(" * 20 + "1" + ")" * 20, "x = " + "1 - (" * 20 + "1" + ")" * 20,
                     "x = " + " - ".join(["1"] * 101), "x = " + " and ".join(["not a"] * 50),
                     "x = " + "(" * 20 + "1" + " - 1)" * 20, "while 1 {\n" * 20 + "}" * 20,
                     "x = " + "(a < " * 20 + "b" + ")" * 20]:
            self.check_there_and_back(parse_script(text))

    def test_lines_do_not_count(self):
        statements = [("rain", 77, ("number", 1)), ("repeat", -3, ("number", 2), [("dry", 10 ** 9, ("name", "a"))])]
        self.assertEqual(script_text(statements), "rain 1\nrepeat 2 {\ndry a\n}")

    def test_somewhat_beyond_the_limits(self):
        tree = ("name", "a")
        for _ in range(150):
            tree = ("binary", "+", tree, ("number", 1))
        self.assertEqual(script_text([("print", 1, tree)]), "print a" + " + 1" * 150)
        for _ in range(30):
            tree = ("minus", tree)
        self.assertEqual(script_text([("print", 1, tree)]).count("-("), 30)
        deep = [("rain", 1, ("number", 10 ** 70))]
        for _ in range(25):
            deep = [("repeat", 1, ("number", 2), deep)]
        self.assertEqual(len(script_text(deep).split("\n")), 51)


def count(statements):
    """How many statements these are, with those in their blocks."""
    found = 0
    for word, line, *parts in statements:
        found += 1
        if word in ("if", "repeat", "while"):
            found += sum(count(part) for part in parts[1:])
    return found


if __name__ == "__main__":
    unittest.main()
