"""Texts of the statements and expressions of scripts."""

from rainvalleys.grammar import ATOM, COMPARISON, MINUS, NOT, OR, SUM, strength_of_sign


def strength_of(expression):
    """How strong the operator of an expression binds."""
    if expression[0] == "binary":
        return strength_of_sign(expression[1])
    if expression[0] == "not":
        return NOT
    if expression[0] == "minus":
        return MINUS
    return ATOM


def left_least(strength):
    """How strong the left operand of an operator of this strength has to be."""
    if strength == COMPARISON:
        # A comparison has two sums as operands; other operators are applied from left to right.
        return SUM
    return strength


def phrase(expression, least):
    """The text of an expression, in parentheses if it is weaker than this."""
    kind = expression[0]
    strength = strength_of(expression)
    if kind == "binary":
        left = phrase(expression[2], left_least(strength))
        right = phrase(expression[3], strength + 1)
        text = f"{left} {expression[1]} {right}"
    elif kind == "not":
        text = f"not {phrase(expression[1], COMPARISON)}"
    elif kind == "minus":
        text = f"-{phrase(expression[1], ATOM)}"
    elif kind == "call":
        given = ", ".join([phrase(argument, OR) for argument in expression[2]])
        text = f"{expression[1]}({given})"
    else:
        text = str(expression[1])
    if strength < least:
        return f"({text})"
    return text


def statement_lines(statement):
    """The lines of one statement."""
    word = statement[0]
    if word == "set":
        return [f"{statement[2]} = {phrase(statement[3], OR)}"]
    first = phrase(statement[2], OR)
    if word in ("rain", "dry", "print"):
        return [f"{word} {first}"]
    if word in ("pour", "pump"):
        return [f"{word} {first}, {phrase(statement[3], OR)}"]
    lines = [f"{word} {first} " + "{", *block_lines(statement[3])]
    if word == "if" and len(statement[4]) > 0:
        lines.extend(["} else {", *block_lines(statement[4])])
    return lines + ["}"]


def block_lines(statements):
    """The lines of several statements."""
    return [line for statement in statements for line in statement_lines(statement)]
