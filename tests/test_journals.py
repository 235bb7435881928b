import random
import unittest

from cases import Case, content, edge_profiles, operations, perform, random_profiles
from rainvalleys.errors import LimitExceeded, NothingToUndo, ParseError
from rainvalleys.floods import Flood
from rainvalleys.journals import journal, recovered
from rainvalleys.profiles import Profile
from rainvalleys.ratios import Ratio
from rainvalleys.session import Session
from samples import HUGE, Thing

ALPHABET = "0123456789abcdefghijklmnopqrstuvwxyz /-,"
# All characters that texts may have, and some that they do not have.
REPLACEMENTS = "\n\t" + "".join(chr(code) for code in range(32, 127))
PIT = Profile([9, 0, 4, 1, 9])


def check_number(before, text):
    """The check number as one sum of powers, modulo a prime."""
    total = before * pow(41, len(text), 1000003)
    for at, character in enumerate(text):
        total += (ALPHABET.index(character) + 1) * pow(41, len(text) - 1 - at, 1000003)
    return total % 1000003


def with_checks(texts):
    """A journal of these lines, valid or not, with the right check numbers."""
    lines, check = [], 1
    for text in texts:
        check = check_number(check, text)
        lines.append(f"{text} #{check}")
    return "\n".join(lines)


def bare(text):
    return [line.rpartition(" #")[0] for line in text.split("\n")]


def busy_session():
    session = Session(PIT)
    session.rain(Ratio(1, 2), weights=[1, 0, 20, 3, 1])
    session.pour(3, 2)
    session.rain(1)
    session.pump(1, Ratio(7, 3))
    session.dry(Ratio(1, 10))
    return session


def drawn_sessions(seed, many):
    """Sessions, some operations of which were undone."""
    chance = random.Random(seed)
    for profile in [profile for name, profile in edge_profiles()] + random_profiles(seed, many):
        session = Session(profile)
        for operation in operations(chance, profile, chance.randint(0, 6)):
            perform(session, operation)
            if len(session) > 1 and chance.random() < 0.3:
                session.undo(chance.randint(1, 2))
                if chance.random() < 0.5:
                    session.redo()
        yield session


class JournalTest(Case):
    def test_example_of_the_document(self):
        session = Session(Profile([2, 0, 2]))
        session.rain(1)
        session.dry(1)
        lines = journal(session).split("\n")
        self.assertEqual(bare(journal(session)), ["profile 2 0 2", "rain 1", "dry 1"])
        self.assertEqual(recovered("\n".join(lines[:2]))[1], 2)
        self.assertEqual(recovered(journal(session) + "0")[1], 2)
        self.assertEqual(recovered(journal(session))[0], session)

    def test_the_form_of_each_line(self):
        self.assertEqual(bare(journal(busy_session())), [
            "profile 9 0 4 1 9", "rain 1/2 1,0,20,3,1", "pour 3 2", "rain 1", "pump 1 7/3", "dry 1/10"])
        self.assertEqual(bare(journal(Session(Profile([-3, 0, HUGE], [1, 2, HUGE])))),
                         [f"profile -3 0x2 {HUGE}x{HUGE}"])
        session = Session(Profile([5]))
        session.rain(0, weights=(7,))
        session.pour(0, HUGE)
        self.assertEqual(bare(journal(session)), ["profile 5", "rain 0 7", f"pour 0 {HUGE}"])

    def test_check_numbers(self):
        """Counted by hand: p, r, o, f, i, l, e, a blank and 5 are the characters 26, 28, 25, 16, 19, 22, 15, 37, 6."""
        check = 1
        for character in (26, 28, 25, 16, 19, 22, 15, 37, 6):
            check = (check * 41 + character) % 1000003
        self.assertEqual(journal(Session(Profile([5]))), f"profile 5 #{check}")
        for session in [*drawn_sessions(1, 40), busy_session()]:
            text = journal(session)
            self.assertIs(text.__class__, str)
            self.assertEqual(text, with_checks(bare(text)))

    def test_each_character_of_the_alphabet_counts(self):
        session = Session(Profile([10, -234], [56, 789]))
        session.rain(Ratio(1, 10 ** 59), weights=[0, HUGE])
        session.pump(1, 3)
        session.dry(4)
        text = journal(session)
        self.assertEqual(text, with_checks(bare(text)))
        self.assertEqual(recovered(text), (session, 4))

    def test_only_current_operations(self):
        session = busy_session()
        session.undo(2)
        self.assertEqual(len(journal(session).split("\n")), 4)
        session.redo()
        self.assertEqual(bare(journal(session))[-1], "pump 1 7/3")
        session.undo(4)
        self.assertEqual(bare(journal(session)), ["profile 9 0 4 1 9"])

    def test_1000_digits(self):
        for number in (Ratio(10 ** 1000 - 1), Ratio(1, 10 ** 1000 - 1), Ratio(10 ** 999 - 1, 10 ** 999)):
            for word, arguments in [("rain", (number,)), ("pour", (0, number)), ("pump", (1, number)),
                                    ("dry", (number,))]:
                session = Session(Profile([1, 2]))
                getattr(session, word)(*arguments)
                self.assertEqual(recovered(journal(session)), (session, 2))

    def test_more_than_1000_digits(self):
        for number in (Ratio(10 ** 1000), Ratio(1, 10 ** 1000), Ratio(10 ** 1000, 3),
                       Ratio(3 * 10 ** 3000 + 1, 10 ** 1001), Ratio(1, 10 ** 5000)):
            for word, arguments in [("rain", (number,)), ("pour", (0, number)), ("pump", (1, number)),
                                    ("dry", (number,))]:
                session = Session(Profile([1, 2]))
                session.rain(1)
                getattr(session, word)(*arguments)
                session.rain(1)
                history = session.history()
                self.check_error(LimitExceeded, "limit", 1000, journal, session)
                self.assertEqual(session.history(), history)
                session.undo(2)
                self.assertEqual(recovered(journal(session=session)), (session, 2))

    def test_the_session_stays_as_it_was(self):
        session = busy_session()
        session.undo(2)
        before = [content(session.flood()), session.history()]
        self.assertEqual(journal(session), journal(session))
        self.assertEqual([content(session.flood()), session.history()], before)
        session.redo(2)
        self.assertEqual(session, busy_session())


class RecoveredTest(Case):
    def check_lines(self, texts, lines):
        """With right check numbers, so many of these lines are valid."""
        session, found = recovered(with_checks(texts))
        self.assertEqual(found, lines)
        self.assertEqual(len(session), lines - 1)
        self.assertEqual(bare(journal(session)), texts[:lines])

    def check_refused(self, value):
        self.check_error(ParseError, "value", value, recovered, value)

    def test_drawn_sessions(self):
        for session in [*drawn_sessions(2, 80), busy_session()]:
            text = journal(session)
            found = recovered(text)
            self.assertIs(found.__class__, tuple)
            self.assertEqual([part.__class__ for part in found], [Session, int])
            self.assertEqual(found, (session, 1 + len(session)))
            self.assertEqual(content(found[0].flood()), content(session.flood()))
            self.assertEqual([journal(found[0]), recovered(text=text)], [text, found])
            self.check_error(NothingToUndo, "count", 1, found[0].redo)

    def test_a_recovered_session_goes_on(self):
        session, lines = recovered(journal(busy_session()))
        other = busy_session()
        self.assertEqual(session.rain(3), other.rain(3))
        session.undo(6)
        other.undo(6)
        self.assertEqual([session, session.flood()], [other, other.flood()])

    def test_line_feeds_at_the_end(self):
        text = journal(busy_session())
        for more in ("\n", "\n\n", "\n\n\n", "\n ", "\nrain 1", "\n#"):
            self.assertEqual(recovered(text + more), (busy_session(), 6))
        self.assertEqual(recovered(with_checks(["profile 5"]) + "\n"), (Session(Profile([5])), 1))

    def test_values_without_a_valid_first_line(self):
        for value in [None, True, 0, b"profile 5 #1", [], ["profile 5"], (), {}, Thing(), Ratio(1), Session(PIT), "",
                      "\n", " ", "#", " #1", "profile", "profile 5", "profile 5 #", "x" * 20000, "#1", "profile 5 #1",
                      "\n" + with_checks(["profile 5"]), " " + with_checks(["profile 5"])]:
            self.check_refused(value)
        for text in ["", "profile", "profile ", "profile  5", "profile 5 ", " profile 5", "profile x", "profile 5x1",
                     "profile 05", "profile -0", "profile 5 6x0", "profile 5,6", "profil 5", "profiles 5", "5",
                     "rain 1", "profile 5/1", "profile " + " ".join(["1"] * 61), f"profile {HUGE + 1}", "profile 5  6",
                     "profile 5-6", "profile " + "9" * 5000]:
            self.check_refused(with_checks([text]))
            self.check_refused(with_checks([text, "rain 1"]))

    def test_forms_of_operations(self):
        for text in ["rain 1", "rain 0", "rain 1/2", "rain 3 1,1,1,1,1", "rain 0 0,0,0,0,0", f"rain 1 {HUGE},1,0,12,3",
                     "pour 0 1", "pour 4 22/7", "pump 1 1", "pump 4 0", "dry 0", "dry 1/2", "rain " + "9" * 1000,
                     "rain 1/" + "9" * 1000]:
            self.check_lines(["profile 9 0 4 1 9", text, "rain 1"], 3)

    def test_lines_that_are_no_operations(self):
        wrong = ["", " ", "rain", "rain ", "rain  1", "rain 1 ", " rain 1", "rain 1  1,1,1,1,1", "rain 1 -",
                 "rain 1 1,1,1,1", "rain 1 1,1,1,1,1,1", "rain 1 1,1,1,1,01", "rain 1 1,1,1,1,-1", "rain 1 1,1,1,1,",
                 "rain 1 ,1,1,1,1,1", "rain 1 1,1,,1,1", "rain 1 1,1,1,1,1/2", "rain 1 1 1 1 1 1", "rain 1 1,1,1,1,1 1",
                 "rain 1 ,", "rain 1 1", f"rain 1 {HUGE + 1},1,1,1,1", "rain 1 1,1,1,1," + "9" * 5000, "rain -1",
                 "rain -1/2", "rain 01", "rain 1/1", "rain 2/4", "rain 1/0", "rain -0", "rain 0/1", "rain 1/",
                 "rain /2", "rain 1/-2", "rain 1/2/3", "rain a", "rain " + "9" * 1001, "rain 1/" + "9" * 1001,
                 "rain " + "9" * 19000, "pour", "pour 1", "pour 1 1 1", "pour 1  1", "pour 01 1", "pour -0 1",
                 "pour -1 1", "pour 5 1", "pour 1 -1", "pour 1 02", "pour 1/1 1", "pour a 1", "pour 1 1,1",
                 "pour " + "9" * 40 + " 1", "pour " + "9" * 5000 + " 1", "pump 5 1", "pump 1 -1", "pump 1", "pump 00 1",
                 "dry", "dry -1", "dry 1 1", "dry 01", "dry  1", "dry 1/1", "profile 9 0 4 1 9", "undo", "undo 1",
                 "redo", "new a 1", "print 1", "rain1", "ra in 1", "rain,1", "rain/1", "rain-1", "rainx 1"]
        for text in wrong:
            self.check_lines(["profile 9 0 4 1 9", "rain 1", text, "rain 1"], 2)
            self.check_lines(["profile 9 0 4 1 9", text], 1)

    def test_other_characters(self):
        """A line with a character that has no place in the alphabet has no check number at all."""
        first = with_checks(["profile 9 0 4 1 9", "rain 1"])
        check = int(first.rpartition("#")[2])
        for sign in "A.#+\t!\u00e4_":
            for text in (f"rain {sign}", f"rain 1{sign}", f"{sign}rain 1", f"rain 1 {sign}"):
                beginnings = [check_number(check, text[:at]) for at in range(1 + text.index(sign))]
                for number in [None, check, -1, 0, 1, *beginnings]:
                    self.assertEqual(recovered(f"{first}\n{text} #{number}")[1], 2)

    def test_forms_of_check_numbers(self):
        first, second = with_checks(["profile 9 0 4 1 9", "rain 1"]).split("\n")
        text, number = second.split(" #")
        self.assertEqual(recovered(f"{first}\n{text} #{number}")[1], 2)
        for wrong in [f"{text} #+{number}", f"{text} #-{number}", f"{text} #0{number}", f"{text}  #{number}",
                      f"{text} # {number}", f"{text} #{number} ", f"{text}#{number}", f"{text} {number}", f"{text} #",
                      f"{text}", f"{text} ##{number}", f"{text} #{number}#", f"{text} #{int(number) + 1000003}",
                      f"{text} #{int(number) - 1000003}", f"{text} #{int(number) + 1}", f"{text} #{number}0",
                      f"{text} #{number}/1", f"{text} #{number}\t", f"{text} #1 #{number}", f" {text} #{number}",
                      f"{text} #{number}\r", f"{text}\t#{number}", f"#{number}"]:
            self.assertEqual(recovered(f"{first}\n{wrong}"), (Session(PIT), 1))
            self.assertEqual(recovered(f"{first}\n{wrong}\n{second}"), (Session(PIT), 1))

    def test_a_check_number_of_0(self):
        first = with_checks(["profile 9 0 4 1 9"])
        check = int(first.rpartition("#")[2])
        zero = next(text for text in map("rain {}".format, range(10 ** 7)) if check_number(check, text) == 0)
        self.assertEqual(recovered(f"{first}\n{zero} #0")[1], 2)
        for wrong in ("00", "", "-0", "+0", "1000003"):
            self.assertEqual(recovered(f"{first}\n{zero} #{wrong}")[1], 1)

    def test_the_check_number_of_the_line_before_counts(self):
        lines = journal(busy_session()).split("\n")
        for at in range(1, len(lines)):
            self.assertEqual(recovered("\n".join(lines[:at] + lines[at + 1:]))[1], at)
            self.assertEqual(recovered("\n".join(lines[:at] + [lines[at]] + lines[at:]))[1], at + 1)
            self.assertEqual(recovered("\n".join(lines[:at] + [""] + lines[at:]))[1], at)
            for other in range(1, at):
                exchanged = list(lines)
                exchanged[at], exchanged[other] = lines[other], lines[at]
                self.assertEqual(recovered("\n".join(exchanged))[1], other)
        self.check_refused("\n".join(lines[1:]))


class GuaranteeTest(Case):
    """A journal that is cut off, or in which one character is replaced."""

    def beginnings(self, session):
        """For each number of lines the session with only the operations of these lines, and its flood."""
        found = {}
        twin = session.clone()
        while True:
            found[1 + len(twin)] = twin.clone()
            if len(twin) == 0:
                return found
            twin.undo()

    def check_whole(self, text, lines, beginnings):
        """So many lines are given back."""
        if lines == 0:
            self.check_error(ParseError, "value", text, recovered, text)
            return
        session, found = recovered(text)
        self.assertEqual(found, lines)
        self.assertEqual([session, session.flood()], [beginnings[lines], beginnings[lines].flood()])

    def test_cut_off_anywhere(self):
        for session in [*drawn_sessions(3, 15), busy_session()]:
            text, beginnings = journal(session), self.beginnings(session)
            ends = [len("\n".join(text.split("\n")[:at])) for at in range(1, 2 + len(session))]
            for at in range(len(text) + 1):
                self.check_whole(text[:at], len([end for end in ends if end <= at]), beginnings)

    def test_one_character_is_replaced(self):
        sessions = [busy_session(), *list(drawn_sessions(4, 10))[-3:]]
        for session in sessions:
            text, beginnings = journal(session), self.beginnings(session)
            for at, old in enumerate(text):
                whole = text[:at].count("\n")
                for new in REPLACEMENTS:
                    if new != old:
                        self.check_whole(text[:at] + new + text[at + 1:], whole, beginnings)

    def test_other_changes(self):
        """Lines that are left out, doubled, exchanged or put in, at drawn places."""
        chance = random.Random(5)
        for session in drawn_sessions(5, 40):
            lines, beginnings = journal(session).split("\n"), self.beginnings(session)
            other = journal(busy_session()).split("\n")[1:]
            for _ in range(10):
                changed = list(lines)
                kind, at = chance.choice(["out", "double", "exchange", "in"]), chance.randrange(len(lines))
                if kind == "out":
                    del changed[at]
                elif kind == "double":
                    changed.insert(at, changed[at])
                elif kind == "in":
                    changed.insert(at, chance.choice(other))
                else:
                    changed.insert(chance.randrange(len(lines)), changed.pop(at))
                whole = 0
                while whole < min(len(lines), len(changed)) and lines[whole] == changed[whole]:
                    whole += 1
                self.check_whole("\n".join(changed), whole, beginnings)


class LimitsTest(Case):
    def test_large_profiles_and_numbers(self):
        chance = random.Random(6)
        profile = Profile([chance.randint(-HUGE, HUGE) for _ in range(60)],
                          [chance.randint(1, HUGE) for _ in range(60)])
        session = Session(profile)
        session.rain(Ratio(10 ** 60 - 1, 10 ** 59 + 7), weights=[chance.choice([0, 1, HUGE]) for _ in range(60)])
        session.pour(59, 10 ** 60 - 1)
        session.pump(31, session.flood().depth(31))
        session.dry(session.flood().stored)
        self.assertEqual(recovered(journal(session)), (session, 5))

    def test_many_operations(self):
        session = Session(Profile([9, 0, 9]))
        for _ in range(900):
            session.pour(1, Ratio(1, 1000))
        text = journal(session)
        self.assertTrue(18000 < len(text) < 20000)
        self.assertEqual(recovered(text), (session, 901))

    def test_numbers_that_the_package_returned(self):
        session = Session(Profile([9, 0, 3, 1, 7, 2, 8], [10 ** 29 + 3, 7, 11, 13, 17, 19, 23]))
        for _ in range(5):
            session.rain(Ratio(1, 3))
            session.pump(3, session.flood().stored * Ratio(1, 7))
        self.assertEqual(recovered(journal(session)), (session, 11))
        self.assertEqual(recovered(journal(session))[0].flood(), session.flood())

    def test_a_flood_is_no_text(self):
        self.check_error(ParseError, "value", None, recovered, None)
        flood = Flood(PIT)
        with self.assertRaises(ParseError) as caught:
            recovered(flood)
        self.assertIs(caught.exception.value, flood)


if __name__ == "__main__":
    unittest.main()
