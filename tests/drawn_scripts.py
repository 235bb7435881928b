"""Statements and expressions that are drawn by chance, and texts for them with more blanks and brackets than needed."""

NAMES = ["a", "b", "n", "depth", "min", "stored", "abcdefghijkl", "rainy", "notx", "i"]
CALLS = {"stored": 0, "left": 0, "right": 0, "taken": 0, "columns": 0, "valleys": 0, "depth": 1, "surface": 1,
         "level": 1, "full": 1, "floor": 1, "abs": 1, "min": 2, "max": 2}
SIGNS = ["+", "-", "*", "/", "<", "<=", ">", ">=", "==", "!=", "and", "or"]
STRENGTH = {"or": 1, "and": 2, "+": 5, "-": 5, "*": 6, "/": 6}


def expression(chance, depth, names=NAMES):
    """An expression with at most so many operators and calls inside of each other."""
    if depth == 0 or chance.random() < 0.2:
        if chance.random() < 0.5 or not names:
            return ("number", chance.choice([0, 1, 2, 3, 7, 10, 10 ** 59]))
        return ("name", chance.choice(names))
    kind = chance.choice(["minus", "not", "call", "binary", "binary", "binary"])
    if kind == "binary":
        return (kind, chance.choice(SIGNS), expression(chance, depth - 1, names), expression(chance, depth - 1, names))
    if kind == "call":
        name = chance.choice(list(CALLS))
        return (kind, name, [expression(chance, depth - 1, names) for _ in range(CALLS[name])])
    return (kind, expression(chance, depth - 1, names))


def statement(chance, depth, names=NAMES):
    """A statement without lines, of the form of the document but with None in the place of the line."""
    words = ["rain", "dry", "print", "set", "pour", "pump"]
    if depth > 0:
        words += ["if", "repeat", "while"]
    word = chance.choice(words)
    one = expression(chance, chance.randint(0, 3), names)
    if word == "set":
        return (word, None, chance.choice(names), one)
    if word in ("pour", "pump"):
        return (word, None, one, expression(chance, 2, names))
    if word in ("rain", "dry", "print"):
        return (word, None, one)
    blocks = [block(chance, depth - 1, names) for _ in range(2 if word == "if" else 1)]
    return (word, None, one, *blocks)


def block(chance, depth, names=NAMES):
    return [statement(chance, depth, names) for _ in range(chance.randint(0, 3))]


def strength(tree):
    if tree[0] == "binary":
        return STRENGTH.get(tree[1], 4)
    return {"not": 3, "minus": 7}.get(tree[0], 8)


class Writer:
    """Writes statements as a text, and gives each one its line."""

    def __init__(self, chance):
        self.chance = chance
        self.line = 1

    def gap(self, least=0):
        return " " * (least + self.chance.choice([0, 0, 0, 1, 3]))

    def remark(self):
        return self.chance.choice(["", "", "", "# X\t;{", "#"])

    def ends(self, least):
        """Separators."""
        many = least + self.chance.choice([0, 0, 1, 2])
        found = ""
        for _ in range(many):
            if self.chance.random() < 0.5:
                found += self.gap() + ";"
            else:
                found += self.gap() + self.remark() + "\n"
                self.line += 1
        return found + self.gap()

    def number(self, value):
        text = self.chance.choice(["", "", "0", "000"]) + str(value)
        return text if len(text) <= 60 else str(value)

    def expression(self, tree, least=1):
        kind = tree[0]
        if kind == "number":
            text = self.number(tree[1])
        elif kind == "name":
            text = tree[1]
        elif kind == "minus":
            text = "-" + self.gap() + self.expression(tree[1], 8)
        elif kind == "not":
            text = "not" + self.gap(1) + self.expression(tree[1], 4)
        elif kind == "call":
            given = [self.gap() + self.expression(part) + self.gap() for part in tree[2]]
            text = tree[1] + self.gap() + "(" + self.gap() + ",".join(given) + ")"
        else:
            strong = strength(tree)
            left = self.expression(tree[2], 5 if strong == 4 else strong)
            right = self.expression(tree[3], strong + 1)
            beside = 1 if tree[1] in ("and", "or") else 0
            text = left + self.gap(beside) + tree[1] + self.gap(beside) + right
        if strength(tree) < least or self.chance.random() < 0.05:
            text = "(" + self.gap() + text + self.gap() + ")"
        return text

    def statement(self, tree):
        """The text and the same statement with lines."""
        word, nothing, *parts = tree
        line = self.line
        if word == "set":
            return parts[0] + self.gap() + "=" + self.gap() + self.expression(parts[1]), (word, line, *parts)
        text = word + self.gap(1) + self.expression(parts[0])
        if word in ("pour", "pump"):
            return text + self.gap() + "," + self.gap() + self.expression(parts[1]), (word, line, *parts)
        if word in ("rain", "dry", "print"):
            return text, (word, line, *parts)
        block_text, first = self.block(parts[1])
        text += self.gap() + block_text
        if word != "if":
            return text, (word, line, parts[0], first)
        second = []
        if parts[2] or self.chance.random() < 0.2:
            block_text, second = self.block(parts[2])
            text += self.gap() + "else" + self.gap() + block_text
        return text, (word, line, parts[0], first, second)

    def block(self, statements):
        text, found = self.statements(statements)
        return "{" + text + "}", found

    def statements(self, statements):
        text, found = self.ends(0), []
        for at, tree in enumerate(statements):
            if at:
                text += self.ends(1)
            more, known = self.statement(tree)
            text += more
            found.append(known)
        return text + self.ends(0), found


def written(chance, statements):
    """A text for the statements, and the statements with the lines that they have there."""
    return Writer(chance).statements(statements)


def without_lines(statements):
    """The same statements with None in the place of each line, those in blocks, too."""
    found = []
    for word, line, *parts in statements:
        if word in ("if", "repeat", "while"):
            parts = [parts[0], *[without_lines(part) for part in parts[1:]]]
        found.append((word, None, *parts))
    return found
