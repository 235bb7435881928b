"""Runs of scripts: what their statements do to a flood."""

from rainvalleys.errors import InvalidColumn, InvalidNumber, InvalidValley, LimitExceeded, UnknownName
from rainvalleys.ratios import Ratio


def index_of(value, many):
    """The index below this number that a value is, or None."""
    if value.bottom == 1 and 0 <= value.top < many:
        return value.top
    return None


def column_of(flood, value):
    """The column that a value is."""
    column = index_of(value, len(flood.profile))
    if column is None:
        raise InvalidColumn(value)
    return column


def valley_of(flood, value):
    """The valley that a value is."""
    valley = index_of(value, len(flood.levels()))
    if valley is None:
        raise InvalidValley(value)
    return valley


def truth(holds):
    """The value of something that holds or not."""
    if holds:
        return Ratio(1)
    return Ratio(0)


def compared(sign, left, right):
    """Whether this comparison of two values holds."""
    if sign == "<":
        return left < right
    if sign == "<=":
        return left <= right
    if sign == ">":
        return left > right
    if sign == ">=":
        return left >= right
    if sign == "==":
        return left == right
    return left != right


def combined(sign, left, right):
    """What an operator between two values gives, but for those that may not need the right one."""
    if sign == "+":
        return left + right
    if sign == "-":
        return left - right
    if sign == "*":
        return left * right
    if sign == "/":
        return left.over(right)
    return truth(compared(sign, left, right))


def flood_value(flood, name):
    """The value of a call without arguments."""
    if name == "stored":
        return flood.stored
    if name == "left":
        return flood.left
    if name == "right":
        return flood.right
    if name == "taken":
        return flood.taken
    if name == "columns":
        return Ratio(len(flood.profile))
    return Ratio(len(flood.levels()))


def place_value(flood, name, place):
    """The value of a call for a column or a valley."""
    if name == "depth":
        return flood.depth(column_of(flood, place))
    if name == "surface":
        return flood.surface(column_of(flood, place))
    valley = valley_of(flood, place)
    if name == "level":
        return flood.levels()[valley]
    return truth(flood.is_full(valley))


def number_value(name, given):
    """The value of a call for numbers alone."""
    first = given[0]
    if name == "floor":
        return Ratio(first.floor())
    if name == "abs":
        return abs(first)
    second = given[1]
    if (second < first) == (name == "min"):
        return second
    return first


def call_value(flood, name, given):
    """The value of a call with these arguments."""
    if len(given) == 0:
        return flood_value(flood, name)
    if name in ("depth", "surface", "level", "full"):
        return place_value(flood, name, given[0])
    return number_value(name, given)


class Run:
    """A flood on which statements are performed, the values of the variables, and what was printed."""

    def __init__(self, site, limit):
        self.site = site
        self.limit = limit
        self.steps = 0
        self.variables = {}
        self.printed = []

    def begin_step(self):
        """Count a step."""
        if self.steps == self.limit:
            raise LimitExceeded(self.limit)
        self.steps += 1

    def perform_all(self, statements):
        """Perform a block."""
        for statement in statements:
            self.begin_step()
            self.perform(statement)

    def perform(self, statement):
        """Perform one statement."""
        word = statement[0]
        if word == "set":
            self.variables[statement[2]] = self.evaluate(statement[3])
        elif word == "while":
            self.perform_while(statement[2], statement[3])
        else:
            self.perform_with(statement, self.evaluate(statement[2]))

    def perform_with(self, statement, value):
        """Perform a statement of which the first expression has this value."""
        word = statement[0]
        if word == "rain":
            self.site.rain(value)
        elif word == "dry":
            self.site.dry(value)
        elif word == "print":
            self.printed.append(value)
        elif word == "repeat":
            self.repeat(value, statement[3])
        elif word == "if":
            block = statement[3]
            if value == 0:
                block = statement[4]
            self.perform_all(block)
        else:
            self.move_volume(word, value, self.evaluate(statement[3]))

    def move_volume(self, word, place, volume):
        """Pour or pump a volume."""
        column = column_of(self.site, place)
        if word == "pour":
            self.site.pour(column, volume)
        else:
            self.site.pump(column, volume)

    def repeat(self, value, block):
        """Perform a block so many times."""
        if value.bottom != 1 or value < 0:
            raise InvalidNumber(value)
        done = 0
        while done < value.top:
            self.begin_step()
            self.perform_all(block)
            done += 1

    def perform_while(self, condition, block):
        """Perform a block as long as the condition is not 0."""
        while self.evaluate(condition) != 0:
            self.begin_step()
            self.perform_all(block)

    def variable(self, name):
        """The value of a variable."""
        if name not in self.variables:
            raise UnknownName(name)
        return self.variables[name]

    def evaluate(self, expression):
        """The value of an expression."""
        kind = expression[0]
        if kind == "number":
            return Ratio(expression[1])
        if kind == "name":
            return self.variable(expression[1])
        if kind == "minus":
            return -self.evaluate(expression[1])
        if kind == "not":
            return truth(self.evaluate(expression[1]) == 0)
        if kind == "call":
            given = [self.evaluate(argument) for argument in expression[2]]
            return call_value(self.site, expression[1], given)
        sign = expression[1]
        left = self.evaluate(expression[2])
        if sign in ("and", "or"):
            # The left operand decides if it is 0 beside "and", or if it is not 0 beside "or".
            if (left == 0) == (sign == "and"):
                return truth(left != 0)
            return truth(self.evaluate(expression[3]) != 0)
        return combined(sign, left, self.evaluate(expression[3]))
