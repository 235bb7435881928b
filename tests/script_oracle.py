"""Scripts once more, straight from the words of the document: which texts are scripts, and what scripts do.

Texts are recognized by Earley's algorithm with the grammar of the document. It takes tokens only as long as they are
the beginning of a script, so it tells the first wrong one. The limits of scripts are counted apart from it.
"""

import re
from fractions import Fraction

from cases import fraction
from rainvalleys.ratios import Ratio

TOKEN = re.compile(r"(?P<name>[a-z]{1,12})|(?P<number>[0-9]{1,60})|(?P<end>[;\n])"
                   r"|(?P<symbol><=|>=|==|!=|[-+*/(){},=<>])|(?P<gap> +|#[^\n]*)")
RESERVED = "rain pour pump dry print if else repeat while and or not".split()
ARGUMENTS = {0: "stored left right taken columns valleys", 1: "depth surface level full floor abs", 2: "min max"}

GRAMMAR = """
Body -> Ends | Ends List Ends
Ends -> | Ends end
List -> Statement | List end Ends Statement
Statement -> rain Or | dry Or | print Or | pour Or , Or | pump Or , Or | Name = Or
Statement -> if Or Block | if Or Block else Block | repeat Or Block | while Or Block
Block -> { Body }
Or -> And | Or or And
And -> Not | And and Not
Not -> Comparison | not Comparison
Comparison -> Sum | Sum < Sum | Sum <= Sum | Sum > Sum | Sum >= Sum | Sum == Sum | Sum != Sum
Sum -> Product | Sum + Product | Sum - Product
Product -> Minus | Product * Minus | Product / Minus
Minus -> Atom | - Atom
Atom -> number | Name | ( Or ) | call0 ( ) | call1 ( Or ) | call2 ( Or , Or )
Name -> name | call0 | call1 | call2
"""


def rules():
    found = {}
    for line in GRAMMAR.strip().split("\n"):
        head, bodies = line.split(" ->")
        found.setdefault(head, []).extend(tuple(body.split()) for body in bodies.split(" | "))
    return found


RULES = rules()


def terminal(kind, token):
    """The sign of the grammar that stands for a token."""
    if kind != "name":
        return kind if kind in ("number", "end") else token
    if token in RESERVED:
        return token
    for many, names in ARGUMENTS.items():
        if token in names.split():
            return f"call{many}"
    return "name"


class Recognizer:
    """The state of Earley's algorithm behind some tokens. An item is a head, a body, a place in it and a beginning."""

    def __init__(self):
        self.sets = [self.closed([("Body", body, 0, 0) for body in RULES["Body"]], [])]

    def closed(self, items, before):
        found = dict.fromkeys(items)
        at = len(before)
        queue = list(items)
        while queue:
            head, body, dot, start = queue.pop()
            if dot < len(body) and body[dot] in RULES:
                new = [(body[dot], other, 0, at) for other in RULES[body[dot]]]
                # What can be empty is done as soon as it begins.
                if body[dot] in ("Ends", "Body"):
                    new.append((head, body, dot + 1, start))
            elif dot == len(body):
                earlier = found if start == at else before[start]
                new = [(one, other, place + 1, begin) for one, other, place, begin in list(earlier)
                       if place < len(other) and other[place] == head]
            else:
                new = []
            for item in new:
                if item not in found:
                    found[item] = None
                    queue.append(item)
        return found

    def take(self, sign):
        """Read one more token and return whether a script can begin so."""
        moved = [(head, body, dot + 1, start) for head, body, dot, start in self.sets[-1]
                 if dot < len(body) and body[dot] == sign]
        self.sets.append(self.closed(moved, self.sets))
        return bool(moved)

    def is_complete(self):
        return any(head == "Body" and dot == len(body) and start == 0 for head, body, dot, start in self.sets[-1])


def token_list(text):
    """The tokens of a text, or the line of the first character that belongs to none."""
    found, line, at = [], 1, 0
    while at < len(text):
        match = TOKEN.match(text, at)
        if match is None:
            return line
        if match.lastgroup != "gap":
            found.append((line, match.lastgroup, match.group()))
        line += match.group() == "\n"
        at = match.end()
    return found


def wrong_line(text):
    """The line of the error that reading the text as a script raises, or None. Limits do not count."""
    found = token_list(text)
    if isinstance(found, int):
        return found
    recognizer = Recognizer()
    for line, kind, token in found:
        if not recognizer.take(terminal(kind, token)):
            return line
    return None if recognizer.is_complete() else 1 + text.count("\n")


class Stop(Exception):
    """An error that a script raises: the name of its class and its field."""

    def __init__(self, name, field):
        super().__init__(name, field)
        self.name = name
        self.field = field


class Interpreter:
    """Performs statements with Python's own fractions on a flood whose operations were tested before."""

    def __init__(self, flood, limit):
        self.flood = flood
        self.rest = limit
        self.limit = limit
        self.names = {}
        self.printed = []

    def step(self):
        if self.rest == 0:
            raise Stop("LimitExceeded", self.limit)
        self.rest -= 1

    def block(self, statements):
        for word, line, *parts in statements:
            self.step()
            getattr(self, "do_" + word)(*parts)

    def ratio(self, number):
        return Ratio(number.numerator, number.denominator)

    def amount(self, number):
        if number < 0:
            raise Stop("InvalidNumber", number)
        return self.ratio(number)

    def do_rain(self, amount):
        self.flood.rain(self.amount(self.value(amount)))

    def do_dry(self, depth):
        self.flood.dry(self.amount(self.value(depth)))

    def do_pour(self, column, volume):
        place, water = self.value(column), self.value(volume)
        self.flood.pour(self.column(place), self.amount(water))

    def do_pump(self, column, volume):
        place, water = self.value(column), self.value(volume)
        self.flood.pump(self.column(place), self.amount(water))

    def do_print(self, expression):
        self.printed.append(self.value(expression))

    def do_set(self, name, expression):
        self.names[name] = self.value(expression)

    def do_if(self, expression, first, second):
        self.block(second if self.value(expression) == 0 else first)

    def do_repeat(self, expression, block):
        many = self.value(expression)
        if many < 0 or many.denominator != 1:
            raise Stop("InvalidNumber", many)
        while many > 0:
            self.step()
            self.block(block)
            many -= 1

    def do_while(self, expression, block):
        while self.value(expression):
            self.step()
            self.block(block)

    def column(self, number):
        if number not in range(len(self.flood.profile)):
            raise Stop("InvalidColumn", number)
        return int(number)

    def valley(self, number):
        if number not in range(len(self.flood.levels())):
            raise Stop("InvalidValley", number)
        return int(number)

    def value(self, expression):
        kind, *parts = expression
        return Fraction(getattr(self, "value_of_" + kind)(*parts))

    def value_of_number(self, number):
        return number

    def value_of_name(self, name):
        if name not in self.names:
            raise Stop("UnknownName", name)
        return self.names[name]

    def value_of_minus(self, part):
        return -self.value(part)

    def value_of_not(self, part):
        return self.value(part) == 0

    def value_of_binary(self, sign, left, right):
        one = self.value(left)
        if sign == "and":
            return bool(one) and bool(self.value(right))
        if sign == "or":
            return bool(one) or bool(self.value(right))
        other = self.value(right)
        if sign == "/":
            if other == 0:
                raise Stop("InvalidNumber", other)
            return one / other
        return {"+": one + other, "-": one - other, "*": one * other, "<": one < other, "<=": one <= other,
                ">": one > other, ">=": one >= other, "==": one == other, "!=": one != other}[sign]

    def value_of_call(self, name, arguments):
        given = [self.value(argument) for argument in arguments]
        if name in ("stored", "left", "right", "taken"):
            return fraction(getattr(self.flood, name))
        if name in ("depth", "surface"):
            return fraction(getattr(self.flood, name)(self.column(given[0])))
        if name in ("level", "full"):
            valley = self.valley(given[0])
            return fraction(self.flood.levels()[valley]) if name == "level" else self.flood.is_full(valley)
        if name in ("columns", "valleys"):
            return len(self.flood.profile) if name == "columns" else len(self.flood.levels())
        return {"floor": lambda x: x // 1, "abs": abs, "min": min, "max": max}[name](*given)
