"""The words that commands and journals consist of. All functions accept any text."""

from rainvalleys.errors import ParseError
from rainvalleys.ratios import Ratio, is_digits

LONGEST_NAME = 8
# A column and a weight may have so many digits; most of these columns are none, which is for others to find out.
COLUMN_DIGITS = 30
WEIGHT_DIGITS = 31


def is_name(text):
    """Whether the text is a name: one to eight lowercase letters."""
    return len(text) <= LONGEST_NAME and text.isascii() and text.isalpha() and text.islower()


def whole_of(text, digits):
    """The integer that is written as this text of at most so many digits, without a sign, or None."""
    if len(text) > digits or not is_digits(text) or str(int(text)) != text:
        return None
    return int(text)


def weights_of(text):
    """The weights that are written as this text, with None, which is no weight, for each one that is not."""
    return tuple([whole_of(word, WEIGHT_DIGITS) for word in text.split(",")])


def number_of(text, digits):
    """The number that is written as this text with at most so many digits in each part, or None."""
    if any([len(part) > digits for part in text.removeprefix("-").split("/")]):
        return None
    try:
        return Ratio.parse(text)
    except ParseError:
        return None


def part_of(kind, word, digits):
    """The value of this kind that is written as this word, or None."""
    if kind == "column":
        return whole_of(word, COLUMN_DIGITS)
    if kind == "weights":
        return weights_of(word)
    if kind == "number":
        return number_of(word, digits)
    if is_name(word):
        return word
    return None


def parts_of(form, words, digits):
    """The values of these kinds that are written as these words, or None if one is not."""
    found = [part_of(kind, word, digits) for kind, word in zip(form, words)]
    if any([part is None for part in found]):
        return None
    return found
