"""Exact fractions."""

from rainvalleys.errors import InvalidNumber, ParseError
from rainvalleys.integers import is_whole

MOST_DIGITS = 1000


def common_divisor(first, second):
    """The greatest common divisor of two integers from 0 on, of which the second one is not 0."""
    while second != 0:
        first, second = second, first % second
    return first


def as_ratio(value):
    """The number as a fraction, or None if the value is no number."""
    if isinstance(value, Ratio):
        return value
    if is_whole(value):
        return Ratio(value)
    return None


def gap(left, right):
    """An integer with the sign of the difference of two fractions."""
    return left.reduced_top * right.reduced_bottom - right.reduced_top * left.reduced_bottom


def is_digits(text):
    """Whether the text is a part of a fraction that may be read: Python fails for much longer ones."""
    return len(text) <= MOST_DIGITS and text.isascii() and text.isdigit()


class Ratio:
    """A fraction in lowest terms with a positive denominator."""

    def __init__(self, numerator, denominator=1):
        if not is_whole(numerator):
            raise InvalidNumber(numerator)
        if not is_whole(denominator) or denominator == 0:
            raise InvalidNumber(denominator)
        divisor = common_divisor(abs(numerator), abs(denominator))
        if denominator < 0:
            divisor = -divisor
        self.reduced_top = numerator // divisor
        self.reduced_bottom = denominator // divisor

    @classmethod
    def parse(cls, text):
        """The fraction that is written as this text."""
        if not isinstance(text, str):
            raise ParseError(text)
        top, line, bottom = text.partition("/")
        if line == "":
            bottom = "1"
        if not is_digits(top.removeprefix("-")) or not is_digits(bottom) or int(bottom) == 0:
            raise ParseError(text)
        found = cls(int(top), int(bottom))
        # Only one of all the ways to write a fraction is its text: "2/4", "01" and "-0" are not.
        if str(found) != text:
            raise ParseError(text)
        return found

    @property
    def top(self):
        """The numerator in lowest terms."""
        return self.reduced_top

    @property
    def bottom(self):
        """The denominator in lowest terms."""
        return self.reduced_bottom

    def over(self, other):
        """The quotient of this fraction and a number."""
        right = as_ratio(other)
        if right is None or right.reduced_top == 0:
            raise InvalidNumber(other)
        return Ratio(self.reduced_top * right.reduced_bottom, self.reduced_bottom * right.reduced_top)

    def floor(self):
        """The greatest integer that is not greater."""
        return self.reduced_top // self.reduced_bottom

    def __add__(self, other):
        right = as_ratio(other)
        if right is None:
            return NotImplemented
        top = self.reduced_top * right.reduced_bottom + right.reduced_top * self.reduced_bottom
        return Ratio(top, self.reduced_bottom * right.reduced_bottom)

    def __radd__(self, other):
        return self + other

    def __sub__(self, other):
        right = as_ratio(other)
        if right is None:
            return NotImplemented
        return Ratio(gap(self, right), self.reduced_bottom * right.reduced_bottom)

    def __rsub__(self, other):
        return -self + other

    def __mul__(self, other):
        right = as_ratio(other)
        if right is None:
            return NotImplemented
        return Ratio(self.reduced_top * right.reduced_top, self.reduced_bottom * right.reduced_bottom)

    def __rmul__(self, other):
        return self * other

    def __neg__(self):
        return Ratio(-self.reduced_top, self.reduced_bottom)

    def __abs__(self):
        return Ratio(abs(self.reduced_top), self.reduced_bottom)

    def __bool__(self):
        return bool(self.reduced_top != 0)

    def __eq__(self, other):
        if isinstance(other, Ratio):
            return self.reduced_top == other.reduced_top and self.reduced_bottom == other.reduced_bottom
        return is_whole(other) and self.reduced_bottom == 1 and self.reduced_top == other

    def __ne__(self, other):
        return not self == other

    def __lt__(self, other):
        right = as_ratio(other)
        if right is None:
            return NotImplemented
        return gap(self, right) < 0

    def __le__(self, other):
        right = as_ratio(other)
        if right is None:
            return NotImplemented
        return gap(self, right) <= 0

    def __gt__(self, other):
        right = as_ratio(other)
        if right is None:
            return NotImplemented
        return gap(self, right) > 0

    def __ge__(self, other):
        right = as_ratio(other)
        if right is None:
            return NotImplemented
        return gap(self, right) >= 0

    def __str__(self):
        if self.reduced_bottom == 1:
            return str(self.reduced_top)
        return f"{self.reduced_top}/{self.reduced_bottom}"

    def __repr__(self):
        return f"Ratio({self.reduced_top}, {self.reduced_bottom})"
