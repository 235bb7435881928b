import random
import unittest

from cases import Case, content, edge_profiles, random_profiles
from rainvalleys.amounts import amount_to_reach, end_amount, end_volume
from rainvalleys.console import Console
from rainvalleys.errors import (InvalidColumn, InvalidCommand, InvalidNumber, LimitExceeded, NothingToUndo, UnknownName)
from rainvalleys.floods import Flood
from rainvalleys.profiles import Profile
from rainvalleys.ratios import Ratio
from rainvalleys.session import Session
from rainvalleys.texts import flood_text, profile_text
from samples import HUGE, Thing

ERRORS = (InvalidColumn, InvalidCommand, InvalidNumber, LimitExceeded, NothingToUndo, UnknownName)
# A right command for each word.
COMMANDS = ["new a 3 0 1 0 3x2", "drop a", "names", "rain a 1/2", "pour a 1 2", "pump a 1 2", "dry a 1/3", "undo a",
            "show a", "depth a 1", "volumes a", "end a", "reach a 1 2"]


def filled_console():
    """A console with two sessions, in which something has happened already."""
    console = Console()
    for command in ["new a 3 0 1 0 3", "new bb 9 0 9", "rain a 1/2", "rain bb 20", "pump bb 1 1/2"]:
        console.execute(command)
    return console


def state(console):
    """All that a console tells about its sessions; asking changes nothing."""
    found = [len(console), console.execute("names")]
    for name in console.execute("names").replace("-", "").split():
        found += [console.execute(f"{word} {name}") for word in ("show", "volumes", "end")]
    return found


def events_text(found):
    return "; ".join(f"{when} {word} {first} {last}" for when, word, first, last in found) or "-"


class ConsoleCase(Case):
    def check_answers(self, console, pairs):
        for command, expected in pairs:
            found = console.execute(command)
            self.assertIs(found.__class__, str)
            self.assertEqual(found, expected, command)

    def check_refused(self, kind, field, value, command, console=None):
        console = console or filled_console()
        before = state(console)
        self.check_error(kind, field, value, console.execute, command)
        self.assertEqual(state(console), before)


class CommandsTest(ConsoleCase):
    def test_example_of_the_document(self):
        self.check_answers(Console(), [
            ("new a 3 0 1 0 3", "ok"), ("rain a 1/2", "1/2 joined 0 1"), ("show a", "0-1 1 2"), ("end a", "8 2"),
            ("reach a 2 1", "5/4"), ("volumes a", "2 1/4 1/4 0")])

    def test_each_command(self):
        self.check_answers(Console(), [
            ("names", "-"), ("new pit 9 0 4 1 9", "ok"), ("names", "pit"), ("show pit", "0-0 0 0; 1-1 1 0"),
            ("rain pit 0", "-"), ("rain pit 7/4", "3/2 full 1 1; 7/4 joined 0 1"), ("show pit", "0-1 4 7"),
            ("pour pit 1 20", "15 full 0 1"), ("show pit", "0-1 9 22 full"), ("pour pit 2 1", "-"),
            ("volumes pit", "22 31/8 31/8 0"), ("pump pit 3 30", "18"), ("depth pit 1", "4"), ("depth pit 3", "0"),
            ("depth pit 2", "0"), ("dry pit 3/2", "3/2"), ("volumes pit", "5/2 31/8 31/8 39/2"), ("undo pit", "ok"),
            ("depth pit 1", "4"), ("undo pit", "ok"), ("show pit", "0-1 9 22 full"), ("end pit", "22 11/2"),
            ("reach pit 1 4", "7/4"), ("reach pit 2 1/2", "17/8"), ("reach pit 0 1", "never"), ("reach pit 0 0", "0"),
            ("reach pit 1 9", "11/2"), ("reach pit 1 19/2", "never"), ("drop pit", "ok"), ("names", "-")])

    def test_no_valleys(self):
        self.check_answers(Console(), [("new x 5", "ok"), ("show x", "-"), ("rain x 3", "-"),
                                       ("volumes x", "0 3/2 3/2 0"), ("end x", "0 0"), ("dry x 1", "0"),
                                       ("pump x 0 1", "0"), ("reach x 0 1", "never")])

    def test_names(self):
        console = Console()
        for name in ("zz", "b", "abcdefgh", "new", "names", "ab", "a"):
            self.assertEqual(console.execute(f"new {name} 1"), "ok")
        self.check_answers(console, [("names", "a ab abcdefgh b names new zz"), ("drop new", "ok"),
                                     ("new names 3 0 3", "ok"), ("show names", "0-0 0 0"),
                                     ("names", "a ab abcdefgh b names zz")])

    def test_new_replaces_a_session(self):
        console = filled_console()
        self.check_answers(console, [
            ("new a 5 0 5", "ok"), ("show a", "0-0 0 0"), ("volumes a", "0 0 0 0"), ("names", "a bb"),
            ("volumes bb", "17/2 51/2 51/2 1/2")])
        self.check_refused(NothingToUndo, "count", 1, "undo a", console)

    def test_profiles(self):
        chance = random.Random(1)
        for profile in [profile for name, profile in edge_profiles()] + random_profiles(1, 30):
            console, flood = Console(), Flood(profile)
            amount = Ratio(chance.randint(0, 9), 4)
            self.check_answers(console, [
                (f"new a {profile_text(profile)}", "ok"), (f"rain a {amount}", events_text(flood.rain(amount))),
                ("show a", flood_text(flood).replace("\n", "; ")),
                ("end a", f"{end_volume(profile)} {end_amount(profile)}")])

    def test_the_length(self):
        console = Console()
        for many in range(8):
            self.assertEqual(len(console), many)
            console.execute(f"new {'abcdefgh'[many]} 1")
        console.execute("new a 2")
        self.assertEqual(len(console), 8)
        console.execute("drop c")
        self.assertEqual(len(console), 7)

    def test_by_name(self):
        self.assertEqual(Console().execute(command="names"), "-")

    def test_consoles_are_independent(self):
        one, other = filled_console(), filled_console()
        before = state(other)
        one.execute("rain a 5")
        one.execute("drop bb")
        self.assertEqual(state(other), before)

    def test_each_method_stands_in_the_class(self):
        for name in ("__init__", "execute", "__len__"):
            self.assertIn(name, Console.__dict__)


class ErrorsTest(ConsoleCase):
    def check_no_command(self, command):
        self.check_refused(InvalidCommand, "value", command, command)

    def test_values_of_other_kinds(self):
        for value in [None, True, 0, b"names", [], ["names"], ("names",), {}, {"names"}, Thing(), Ratio(1),
                      Profile([1]), Session(Profile([1])), Console()]:
            self.check_no_command(value)

    def test_other_words(self):
        for command in ["", " ", "  ", "x", "new", "drop", "rain", "Names", "name", "namess", "names a", "names ",
                        " names", "redo a", "preview a", "history a", "print a", "clone a", "surface a 1", "levels a",
                        "new a", "new a ", "newa 3 0 3", "drop a b", "undo a 1", "show a 1", "end a 1", "volumes a a",
                        "depth a", "rain a", "rain a 1 1", "rain a 1 1,1,1,1,1", "pour a 1", "pour a 1 1 1", "pump a 1",
                        "dry a", "dry a 1 1", "reach a 1", "reach a 1 1 1", "a", "a rain 1", "names\n", "\nnames",
                        "names;", "names;names"]:
            self.check_no_command(command)

    def test_blanks(self):
        for command in COMMANDS:
            self.check_no_command(command + " ")
            self.check_no_command(" " + command)
            self.check_no_command(command + "\n")
            self.check_no_command("\t" + command)
            for at in [at for at, sign in enumerate(command) if sign == " "]:
                self.check_no_command(command[:at] + " " + command[at:])
                self.check_no_command(command[:at] + "\t" + command[at + 1:])
                self.check_no_command(command[:at] + "\n" + command[at + 1:])

    def test_forms_of_names(self):
        for name in ["A", "aB", "a1", "1", "a_b", "a-b", "abcdefghi", "", "\u00e4", "\u00df", "a\n", "a,b", "-", "x.y",
                     "n\u00e4"]:
            for word in ("new {} 3 0 3", "drop {}", "undo {}", "show {}", "volumes {}", "end {}", "rain {} 1",
                         "dry {} 1", "pour {} 1 1", "pump {} 1 1", "depth {} 1", "reach {} 1 1"):
                self.check_no_command(word.format(name))

    def test_forms_of_numbers(self):
        wrong = ["", "x", "01", "-0", "+1", "1/1", "2/4", "1/0", "0/1", "1/-2", "1/", "/2", "1/2/3", "--1", "1.5",
                 "1e3", "1_0", "one", "\u0663", "1,2", "9" * 61, "1/" + "9" * 61, "-" + "9" * 61, "9" * 61 + "/7",
                 "9" * 5000, "-", "1" + "0" * 60]
        for number in wrong:
            for word in ("rain a {}", "dry a {}", "pour a 1 {}", "pump a 1 {}", "reach a 1 {}"):
                self.check_no_command(word.format(number))
        console = Console()
        console.execute("new a 9 0 9")
        for number in ["9" * 60, "1/" + "9" * 60, "9" * 60 + "/" + "1" + "0" * 59]:
            for word in ("rain a {}", "dry a {}", "pour a 1 {}", "pump a 1 {}", "reach a 1 {}"):
                self.assertIs(console.execute(word.format(number)).__class__, str)

    def test_forms_of_columns(self):
        for column in ["", "x", "01", "00", "-0", "-1", "+1", "1/1", "1/2", "1.0", "1_0", "\u0661", "9" * 31,
                       "1" + "0" * 30, "9" * 5000]:
            for word in ("pour a {} 1", "pump a {} 1", "depth a {}", "reach a {} 1"):
                self.check_no_command(word.format(column))

    def test_columns_that_the_profile_does_not_have(self):
        for column in (5, 9, 60, 10 ** 29, 10 ** 30 - 1):
            for word in ("pour a {} 1", "pump a {} 1", "depth a {}", "reach a {} 1", "pour a {} -1", "reach a {} -1"):
                self.check_refused(InvalidColumn, "value", column, word.format(column))

    def test_forms_of_profiles(self):
        for text in ["", "x", "3x1", "-0", "03", "3,0,3", "3  0", "3 0 3 ", "3\n0", "3x0", "1/2", str(HUGE + 1),
                     " ".join(["1"] * 61), "3 0 3x", "a", "3 0 3;", "9" * 19000]:
            self.check_no_command("new a " + text)
            self.check_no_command("new c " + text)

    def test_unknown_names(self):
        for word in ("drop {}", "undo {}", "show {}", "volumes {}", "end {}", "rain {} 1", "dry {} -1", "pour {} 99 -1",
                     "pump {} 99 1", "depth {} 99", "reach {} 99 1"):
            for name in ("b", "aa", "z", "abcdefgh", "names", "rain"):
                self.check_refused(UnknownName, "name", name, word.format(name))
                self.check_refused(UnknownName, "name", name, word.format(name), Console())
        console = filled_console()
        console.execute("drop a")
        self.check_refused(UnknownName, "name", "a", "show a", console)

    def test_a_wrong_form_comes_before_an_unknown_name(self):
        for command in ["rain zz 01", "pour zz 01 1", "pour zz 1 x", "drop zz zz", "depth zz -1", "new zz 3x1"]:
            self.check_no_command(command)

    def test_nine_sessions(self):
        console = Console()
        for name in "abcdefgh":
            console.execute(f"new {name} 1")
        self.check_refused(LimitExceeded, "limit", 8, "new i 1", console)
        self.check_refused(LimitExceeded, "limit", 8, "new aa 3 0 3", console)
        self.check_refused(InvalidCommand, "value", "new i 3x1", "new i 3x1", console)
        self.assertEqual(console.execute("new h 3 0 3"), "ok")
        self.assertEqual([console.execute("show h"), len(console)], ["0-0 0 0", 8])
        console.execute("drop a")
        self.assertEqual([console.execute("new i 1"), len(console)], ["ok", 8])

    def test_errors_of_the_called_functions(self):
        for number in ("-1", "-1/2", "-" + "9" * 60):
            for word in ("rain a {}", "dry a {}", "pour a 1 {}", "pump a 1 {}", "reach a 1 {}"):
                self.check_refused(InvalidNumber, "value", Ratio.parse(number), word.format(number))
        console = Console()
        console.execute("new a 3 0 3")
        self.check_refused(NothingToUndo, "count", 1, "undo a", console)
        console.execute("rain a 1")
        console.execute("undo a")
        self.check_refused(NothingToUndo, "count", 1, "undo a", console)

    def test_an_operation_that_failed_cannot_be_undone(self):
        console = filled_console()
        self.check_refused(InvalidColumn, "value", 5, "pour a 5 1", console)
        self.check_answers(console, [("undo a", "ok"), ("show a", "0-0 0 0; 1-1 0 0")])
        self.check_refused(NothingToUndo, "count", 1, "undo a", console)


class DrawnTest(ConsoleCase):
    """Drawn commands beside sessions."""

    def expected(self, sessions, command):
        """What a command has to answer, and what it does to the sessions, or the error that it has to raise."""
        word, *parts = command.split(" ")
        if word == "names":
            return " ".join(sorted(sessions)) or "-"
        if word == "new":
            if parts[0] not in sessions and len(sessions) == 8:
                raise LimitExceeded(8)
            columns = [part.partition("x") for part in parts[1:]]
            sessions[parts[0]] = Session(Profile([int(height) for height, sign, width in columns],
                                                 [int(width or 1) for height, sign, width in columns]))
            return "ok"
        if parts[0] not in sessions:
            raise UnknownName(parts[0])
        session = sessions[parts[0]]
        numbers = [int(part) if at == 0 and word in ("pour", "pump", "depth", "reach") else Ratio.parse(part)
                   for at, part in enumerate(parts[1:])]
        flood = session.flood()
        if word == "drop":
            del sessions[parts[0]]
            return "ok"
        if word == "undo":
            session.undo()
            return "ok"
        if word in ("rain", "pour"):
            return events_text(getattr(session, word)(*numbers))
        if word in ("pump", "dry"):
            return str(getattr(session, word)(*numbers))
        if word == "show":
            return "; ".join(flood_text(flood).split("\n"))
        if word == "depth":
            return str(flood.depth(*numbers))
        if word == "volumes":
            return f"{flood.stored} {flood.left} {flood.right} {flood.taken}"
        if word == "end":
            return f"{end_volume(flood.profile)} {end_amount(flood.profile)}"
        found = amount_to_reach(flood.profile, *numbers)
        return "never" if found is None else str(found)

    def drawn(self, chance, profiles):
        name = chance.choice(["a", "a", "b", "b", "c", "dd", "e", "f", "g", "h", "i", "zzzzzzzz"])
        number = chance.choice(["0", "1", "2", "1/2", "7/3", "10", "-1", "22/7"])
        column = chance.randint(0, 6)
        return chance.choice([
            f"new {name} {profile_text(chance.choice(profiles))}",
            f"new {name} {profile_text(chance.choice(profiles))}", "names", f"rain {name} {number}",
            f"rain {name} {number}", f"pour {name} {column} {number}", f"pump {name} {column} {number}",
            f"dry {name} {number}", f"undo {name}", f"show {name}", f"depth {name} {column}", f"volumes {name}",
            f"end {name}", f"reach {name} {column} {number}"] + [f"drop {name}"] * (chance.random() < 0.2))

    def test_drawn_commands(self):
        chance = random.Random(2)
        profiles = random_profiles(2, 30) + [profile for name, profile in edge_profiles()]
        for _ in range(12):
            console, sessions = Console(), {}
            for _ in range(120):
                command = self.drawn(chance, profiles)
                try:
                    expected = self.expected(sessions, command)
                except ERRORS as error:
                    with self.assertRaises(error.__class__) as caught:
                        console.execute(command)
                    self.assertEqual(vars(caught.exception), vars(error))
                else:
                    self.check_answers(console, [(command, expected)])
                self.assertEqual(len(console), len(sessions))
            for name, session in sessions.items():
                self.assertEqual(console.execute(f"show {name}"), flood_text(session.flood()).replace("\n", "; "))

    def test_one_character_changed(self):
        """A changed command is refused, or it does what it says."""
        chance = random.Random(3)
        signs = "0123456789abnx/- \n\tA;"
        for command in COMMANDS:
            for _ in range(150):
                at, sign = chance.randint(0, len(command)), chance.choice(signs)
                changed = chance.choice([command[:at] + sign + command[at:], command[:at] + sign + command[at + 1:],
                                         command[:at] + command[at + 1:], command[:at] + command[at - 1:]])
                console = filled_console()
                sessions = {"a": Session(Profile([3, 0, 1, 0, 3])), "bb": Session(Profile([9, 0, 9]))}
                sessions["a"].rain(Ratio(1, 2))
                before = state(console)
                try:
                    found = console.execute(changed)
                except InvalidCommand as error:
                    self.assertEqual([error.value, state(console)], [changed, before])
                except ERRORS:
                    self.assertEqual(state(console), before)
                else:
                    if changed != "names" and " a" in changed:
                        self.assertEqual(found, self.expected(sessions, changed))

    def test_at_the_limits(self):
        chance = random.Random(4)
        profile = Profile([chance.randint(-HUGE, HUGE) for _ in range(60)],
                          [chance.randint(1, HUGE) for _ in range(60)])
        console, flood = Console(), Flood(profile)
        number = Ratio(10 ** 60 - 1, 10 ** 59 + 7)
        self.check_answers(console, [
            (f"new a {profile_text(profile)}", "ok"), (f"rain a {number}", events_text(flood.rain(number))),
            (f"pour a 59 {HUGE ** 2 // 10}", events_text(flood.pour(59, HUGE ** 2 // 10))),
            (f"pump a 31 {number}", str(flood.pump(31, number))), (f"dry a {number}", str(flood.dry(number))),
            ("show a", flood_text(flood).replace("\n", "; ")), ("depth a 31", str(flood.depth(31)))])
        self.assertEqual(content(flood), content(flood.clone()))


if __name__ == "__main__":
    unittest.main()
