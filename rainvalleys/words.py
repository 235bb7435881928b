"""The words that commands, journals and other texts consist of. All functions accept any text."""

from rainvalleys.errors import ParseError
from rainvalleys.ratios import Ratio, is_digits

LONGEST_NAME = 8


def is_name(text):
    """Whether the text is a name: one to eight lowercase letters."""
    return 1 <= len(text) <= LONGEST_NAME and text.isascii() and text.isalpha() and text.islower()


def whole_of(text, digits):
    """The integer that is written as this text of at most so many digits, without a sign, or None."""
    if len(text) > digits or not is_digits(text) or str(int(text)) != text:
        return None
    return int(text)


def number_of(text, digits):
    """The number that is written as this text with at most so many digits in each part, or None."""
    for part in text.removeprefix("-").split("/"):
        if len(part) > digits:
            return None
    try:
        return Ratio.parse(text)
    except ParseError:
        return None
