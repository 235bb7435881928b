"""Texts of the statements and expressions of scripts."""

from rainvalleys.grammar import ATOM, COMPARISON, MINUS, NOT, OR, SUM, strength_of_sign


def strength_of(expression):
    """How strong the operator of an expression binds."""
    if expression[0] == "binary":
        return strength_of_sign(expression[1])
    if expression[0] == "not":
        return NOT
    if expression[0] == "minus":
        return MINUS
    return ATOM


def binary_phrase(expression, strength):
    """The text of an expression with an operator of this strength between two others."""
    least = strength
    if strength == COMPARISON:
        # A comparison has two sums as operands; other operators are applied from left to right.
        least = SUM
    left = phrase(expression[2], least)
    right = phrase(expression[3], strength + 1)
    return f"{left} {expression[1]} {right}"


def bare_phrase(expression, strength):
    """The text of an expression of this strength without parentheses around it."""
    if expression[0] == "binary":
        return binary_phrase(expression, strength)
    if expression[0] == "not":
        return f"not {phrase(expression[1], COMPARISON)}"
    if expression[0] == "minus":
        return f"-{phrase(expression[1], ATOM)}"
    if expression[0] == "call":
        given = ", ".join([phrase(argument, OR) for argument in expression[2]])
        return f"{expression[1]}({given})"
    return str(expression[1])


def phrase(expression, least):
    """The text of an expression, in parentheses if it is weaker than this."""
    strength = strength_of(expression)
    text = bare_phrase(expression, strength)
    if strength < least:
        return f"({text})"
    return text


def statement_lines(statement):
    """The lines of one statement."""
    word = statement[0]
    if word == "set":
        return [f"{statement[2]} = {phrase(statement[3], OR)}"]
    condition = phrase(statement[2], OR)
    if word in ("pour", "pump"):
        return [f"{word} {condition}, {phrase(statement[3], OR)}"]
    if word in ("rain", "dry", "print"):
        return [f"{word} {condition}"]
    lines = [f"{word} {condition} " + "{", *block_lines(statement[3])]
    if word == "if" and len(statement[4]) > 0:
        lines.extend(["} else {", *block_lines(statement[4])])
    return lines + ["}"]


def block_lines(statements):
    """The lines of several statements."""
    return [line for statement in statements for line in statement_lines(statement)]
