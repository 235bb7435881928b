import random
import unittest

from cases import Case, content, edge_profiles, flooded, fraction, oracle_of, perform, operations, random_profiles
from rainvalleys.amounts import flood_after
from rainvalleys.errors import ParseError
from rainvalleys.floods import Flood
from rainvalleys.profiles import Profile
from rainvalleys.ratios import Ratio
from rainvalleys.texts import flood_text, parse_profile, profile_text
from samples import HUGE, Thing

# What a text may be changed with: all characters that texts of profiles have, and some others.
SIGNS = "0123456789x- \n\t+/.#Xa_"


def profiles(seed, many):
    return [profile for name, profile in edge_profiles()] + random_profiles(seed, many)


def changed_texts(text):
    """The text with one character inserted, replaced, removed or doubled."""
    for at in range(len(text) + 1):
        for sign in SIGNS:
            yield text[:at] + sign + text[at:]
            yield text[:at] + sign + text[at + 1:]
        yield text[:at] + text[at + 1:]
        yield text[:at] + text[at:at + 1] * 2 + text[at + 1:]
        yield text[:at]
        yield text[at:]


def no_texts():
    """Values that are no string."""
    return [None, True, False, 0, 5, 10 ** 70, b"3 0 3", [], ["3 0 3"], ("3",), {}, {"3": 1}, {"3"}, Ratio(3), Thing(),
            Profile([3, 0, 3]), Flood(Profile([3]))]


class ProfileTextTest(Case):
    def test_example_of_the_document(self):
        profile = parse_profile("3 0 1 0 3x2")
        self.assertEqual([profile.widths, profile_text(profile)], [(1, 1, 1, 1, 2), "3 0 1 0 3x2"])

    def test_heights_and_widths(self):
        for heights, widths, expected in [([0], None, "0"), ([-7], [1], "-7"), ([5], [2], "5x2"), ([-5], [10], "-5x10"),
                                          ([1, 2], [HUGE, 1], f"1x{HUGE} 2"), ([HUGE, -HUGE], None, f"{HUGE} -{HUGE}"),
                                          ([0, 0, 0], [1, 3, 1], "0 0x3 0"), ([10, 100], [11, 1], "10x11 100")]:
            self.assertEqual(profile_text(Profile(heights, widths)), expected)
            self.assertEqual(parse_profile(expected), Profile(heights, widths))

    def test_there_and_back(self):
        chance = random.Random(1)
        large = [Profile([chance.randint(-HUGE, HUGE) for _ in range(60)],
                         [chance.randint(1, HUGE) for _ in range(60)]),
                 Profile([0] * 60), Profile([-HUGE] * 60, [HUGE] * 60)]
        for profile in profiles(1, 40) + large:
            text = profile_text(profile)
            self.assertIs(text.__class__, str)
            found = parse_profile(text)
            self.assertIs(found.__class__, Profile)
            self.assertEqual([found, profile_text(found)], [profile, text])

    def test_by_name(self):
        self.assertEqual(profile_text(profile=parse_profile(text="3 0x2")), "3 0x2")


class ParseProfileTest(Case):
    def check_refused(self, value):
        self.check_error(ParseError, "value", value, parse_profile, value)

    def test_texts_of_no_profile(self):
        for text in ["", " ", "  ", "x", "x2", "3x", "3x1", "3x0", "3x-2", "3x02", "3x2x2", "3xx2", "-0", "00", "03",
                     "-03", "+3", "--3", "3-", "-", " 3", "3 ", "3  4", "3\t4", "3\n4", "3\n", "3,4", "3 4 x", "3 X2",
                     "3X2", "3.0", "3/1", "1/2", "1e3", "1_0", "-0x2", "3 x2", "3x 2", "a", "None", "[3]", "\u0663",
                     "3x\u0662", "\u00b2", "3x+2", "3x2 ", "-x2", "3x2-"]:
            self.check_refused(text)
        # What looks like a number of another kind is a column of the height 0.
        self.assertEqual(parse_profile("0x10"), Profile([0], [10]))

    def test_numbers_out_of_range(self):
        for text in [str(HUGE + 1), str(-HUGE - 1), f"0x{HUGE + 1}", f"3 0 {HUGE + 1}", "9" * 31, "9" * 5000,
                     "-" + "9" * 19999, "3x" + "9" * 19998, "0" * 20000, "1" + "0" * 31]:
            self.check_refused(text)

    def test_the_number_of_columns(self):
        self.assertEqual(len(parse_profile(" ".join(["7"] * 60))), 60)
        for many in (61, 62, 1000, 10000):
            self.check_refused(" ".join(["7"] * many))

    def test_values_of_other_kinds(self):
        for value in no_texts():
            self.check_refused(value)

    def test_exactly_the_texts_of_profiles(self):
        """With one character changed, a text is refused, or it is the text of what was parsed."""
        for text in ["3 0 1 0 3x2", "-12x10 0", "5", "-1 -10x3 10 0x2", f"{HUGE} -{HUGE}x{HUGE}"]:
            accepted = 0
            for changed in changed_texts(text):
                try:
                    found = parse_profile(changed)
                except ParseError as error:
                    self.assertEqual(error.value, changed)
                else:
                    accepted += 1
                    self.assertEqual(profile_text(found), changed)
            self.assertGreater(accepted, 0)


class FloodTextTest(Case):
    def test_example_of_the_document(self):
        flood = flood_after(parse_profile("3 0 1 0 3x2"), 1)
        self.assertEqual(flood_text(flood).split("\n"), ["0-1 11/6 9/2"])

    def test_no_valleys(self):
        for heights in ([3], [1, 2], [2, 2, 1], [1, 2, 1]):
            self.assertEqual(flood_text(Flood(Profile(heights))), "-")

    def test_a_dry_flood(self):
        self.assertEqual(flood_text(Flood(Profile([3, 0, 1, -5, 3]))), "0-0 0 0\n1-1 -5 0")

    def test_full_bodies(self):
        flood = Flood(Profile([3, 0, 2, 0, 3, 1, 2]))
        flood.pour(1, 2)
        self.assertEqual(flood_text(flood), "0-0 2 2 full\n1-1 0 0\n2-2 1 0")
        flood.pour(5, 1)
        self.assertEqual(flood_text(flood), "0-0 2 2 full\n1-1 0 0\n2-2 2 1 full")
        flood.pour(1, 3)
        self.assertEqual(flood_text(flood), "0-1 7/3 5\n2-2 2 1 full")
        flood.rain(100)
        self.assertEqual(flood_text(flood), "0-1 3 7 full\n2-2 2 1 full")

    def test_each_line(self):
        chance = random.Random(2)
        for profile in profiles(2, 60):
            flood = flooded(profile, chance, 3)
            if flood.bodies():
                lines = flood_text(flood).split("\n")
                self.assertEqual(len(lines), len(flood.bodies()))
                for line, (first, last) in zip(lines, flood.bodies()):
                    full = " full" if flood.is_full(first) else ""
                    words = line.removesuffix(full).split(" ")
                    self.assertEqual(words[:2], [f"{first}-{last}", str(flood.levels()[first])])
                    self.assertEqual(len(words), 3)
                volumes = [Ratio.parse(line.split(" ")[2]) for line in lines]
                self.assertEqual(sum(volumes, Ratio(0)), flood.stored)

    def test_the_volumes_of_a_second_program(self):
        chance = random.Random(3)
        for profile in profiles(3, 40):
            flood, oracle = Flood(profile), oracle_of(profile)
            for word, arguments in operations(chance, profile, 4):
                perform(flood, (word, arguments))
                getattr(oracle, word)(*[fraction(part) if isinstance(part, Ratio) else part for part in arguments])
            lines = [f"{body[0]}-{body[1]} {oracle.level(body)} {oracle.volume(body)}" + " full" * oracle.is_full(body)
                     for body in oracle.bodies()]
            self.assertEqual(flood_text(flood), "\n".join(lines) or "-")

    def test_the_flood_stays_as_it_was(self):
        flood = flood_after(Profile([3, 0, 1, 0, 3]), 1)
        before = content(flood)
        self.assertEqual(flood_text(flood=flood), flood_text(flood))
        self.check_unchanged(flood, before)


if __name__ == "__main__":
    unittest.main()
