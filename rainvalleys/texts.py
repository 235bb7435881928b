"""Texts of profiles and floods."""

from rainvalleys.basins import volume_of
from rainvalleys.errors import ParseError, RainError
from rainvalleys.profiles import Profile
from rainvalleys.words import whole_of

# The greatest height and the greatest width have so many digits.
MOST_DIGITS = 31


def column_text(height, width):
    """The text of one column."""
    if width == 1:
        return str(height)
    return f"{height}x{width}"


def profile_text(profile):
    """The columns of a profile, separated by blanks."""
    return " ".join([column_text(height, width) for height, width in zip(profile.heights, profile.widths)])


def parsed_column(text):
    """The height and the width that a text tells, with None, which is neither, for each one that it does not tell."""
    before, sign, behind = text.partition("x")
    height = whole_of(before.removeprefix("-"), MOST_DIGITS)
    if before.startswith("-") and height is not None:
        height = -height
    width = 1
    if sign != "":
        width = whole_of(behind, MOST_DIGITS)
    return height, width


def parse_profile(text):
    """The profile whose text this is."""
    if not isinstance(text, str):
        raise ParseError(text)
    columns = [parsed_column(word) for word in text.split(" ")]
    try:
        found = Profile([height for height, width in columns], [width for height, width in columns])
    except RainError:
        raise ParseError(text) from None
    # Only one of all the ways to write a profile is its text: "-0" and "3x1" are not.
    if profile_text(found) != text:
        raise ParseError(text)
    return found


def body_text(flood, first, last):
    """The line of one body of a flood."""
    level = flood.levels()[first]
    volume = volume_of(flood.basins, first, last, level)
    text = f"{first}-{last} {level} {volume}"
    if flood.is_full(first):
        return text + " full"
    return text


def flood_text(flood):
    """One line for each body of a flood."""
    lines = [body_text(flood, first, last) for first, last in flood.bodies()]
    if len(lines) == 0:
        return "-"
    return "\n".join(lines)
