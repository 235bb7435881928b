"""The grammar of scripts: how statements and expressions are read from tokens.

The reader looks only one token ahead, and refuses a token if no script goes on with it. Calls and limits may be wrong
some tokens earlier, but then always in the same line: a statement has no line feed outside its blocks.
"""

from rainvalleys.errors import ScriptError

RESERVED = ("rain", "pour", "pump", "dry", "print", "if", "else", "repeat", "while", "and", "or", "not")
# The number of arguments of each call.
CALLS = {
    "stored": 0, "left": 0, "right": 0, "taken": 0, "columns": 0, "valleys": 0,
    "depth": 1, "surface": 1, "level": 1, "full": 1, "floor": 1, "abs": 1, "min": 2, "max": 2,
}
MOST_BRACKETS = 20
MOST_SIGNS = 100

# How strong operators bind. Numbers, variables, calls and parentheses are stronger than all of them.
OR = 1
AND = 2
NOT = 3
COMPARISON = 4
SUM = 5
PRODUCT = 6
MINUS = 7
ATOM = 8


def strength_of_sign(sign):
    """How strong this operator between two operands binds, or 0 for a token that is none."""
    if sign == "or":
        return OR
    if sign == "and":
        return AND
    if sign in ("<", "<=", ">", ">=", "==", "!="):
        return COMPARISON
    if sign in ("+", "-"):
        return SUM
    if sign in ("*", "/"):
        return PRODUCT
    return 0


class Reader:
    """The tokens of a script, and how far they have been read.

    Behind the last token stands one more, of the kind "stop": the end of the script, in its last line.
    """

    def __init__(self, row, last_line):
        self.row = row + [(last_line, "stop", "")]
        self.at = 0
        self.brackets = 0
        self.signs = 0

    def seen(self):
        """The token that comes next."""
        return self.row[self.at][2]

    def kind_seen(self):
        """The kind of the token that comes next."""
        return self.row[self.at][1]

    def line_seen(self):
        """The line of the token that comes next."""
        return self.row[self.at][0]

    def refuse(self):
        """Raise the error for the token that comes next."""
        raise ScriptError(self.line_seen())

    def take(self):
        """Read a token and return it."""
        token = self.seen()
        self.at += 1
        return token

    def expect(self, token):
        """Read this token."""
        if self.seen() != token:
            self.refuse()
        self.at += 1

    def enter(self, bracket):
        """Read this opening bracket."""
        if self.brackets == MOST_BRACKETS:
            self.refuse()
        self.expect(bracket)
        self.brackets += 1

    def leave(self, bracket):
        """Read this closing bracket."""
        self.expect(bracket)
        self.brackets -= 1

    def count_sign(self):
        """Count the operator or call at the token that comes next."""
        if self.signs == MOST_SIGNS:
            self.refuse()
        self.signs += 1

    def sees_free_name(self):
        """Whether a name comes next that is not reserved."""
        return self.kind_seen() == "name" and self.seen() not in RESERVED

    def read_script(self):
        """The statements of the whole script."""
        found = self.read_statements()
        if self.kind_seen() != "stop":
            self.refuse()
        return found

    def skip_ends(self):
        """Read all separators that come next."""
        while self.kind_seen() == "end":
            self.at += 1

    def read_statements(self):
        """The statements up to a closing bracket or to the end of the script."""
        found = []
        self.skip_ends()
        while self.seen() != "}" and self.kind_seen() != "stop":
            found.append(self.read_statement())
            if self.kind_seen() not in ("end", "stop") and self.seen() != "}":
                self.refuse()
            self.skip_ends()
        return found

    def read_block(self):
        """The statements between two brackets."""
        self.enter("{")
        found = self.read_statements()
        self.leave("}")
        return found

    def read_statement(self):
        """One statement."""
        self.signs = 0
        line = self.line_seen()
        word = self.seen()
        if word in ("rain", "dry", "print"):
            self.take()
            return word, line, self.read_expression(OR)
        if word in ("pour", "pump"):
            self.take()
            column = self.read_expression(OR)
            self.expect(",")
            return word, line, column, self.read_expression(OR)
        if word in ("if", "repeat", "while"):
            return self.read_compound()
        if not self.sees_free_name():
            self.refuse()
        self.take()
        self.expect("=")
        return "set", line, word, self.read_expression(OR)

    def read_compound(self):
        """A statement with a block, or with two of them."""
        line = self.line_seen()
        word = self.take()
        condition = self.read_expression(OR)
        block = self.read_block()
        if word != "if":
            return word, line, condition, block
        other = []
        if self.seen() == "else":
            self.take()
            other = self.read_block()
        return word, line, condition, block, other

    def read_expression(self, least):
        """An expression of which all operators outside of brackets are at least as strong as this."""
        if self.seen() == "not" and least <= NOT:
            self.count_sign()
            self.take()
            found = ("not", self.read_expression(COMPARISON))
            most = AND
        else:
            found = self.read_minus()
            most = PRODUCT
        strength = strength_of_sign(self.seen())
        while least <= strength <= most:
            self.count_sign()
            found = ("binary", self.take(), found, self.read_expression(strength + 1))
            most = strength
            if strength == COMPARISON:
                # A comparison is no operand of another one.
                most = AND
            strength = strength_of_sign(self.seen())
        return found

    def read_minus(self):
        """A number, variable, call or parenthesis, or the negative of one."""
        if self.seen() != "-":
            return self.read_atom()
        self.count_sign()
        self.take()
        return "minus", self.read_atom()

    def read_atom(self):
        """A number, variable, call or parenthesis."""
        if self.kind_seen() == "number":
            return "number", int(self.take())
        if self.seen() == "(":
            self.enter("(")
            found = self.read_expression(OR)
            self.leave(")")
            return found
        if not self.sees_free_name():
            self.refuse()
        name = self.take()
        if self.seen() != "(":
            return "name", name
        return "call", name, self.read_arguments(name)

    def read_arguments(self, name):
        """The arguments of a call of this name."""
        self.count_sign()
        self.enter("(")
        found = []
        if self.seen() != ")":
            found.append(self.read_expression(OR))
            while self.seen() == ",":
                self.take()
                found.append(self.read_expression(OR))
        if CALLS.get(name) != len(found):
            self.refuse()
        self.leave(")")
        return found
