"""Journals: texts from which a session can be recovered, also if only their beginning is whole."""

from rainvalleys.errors import InvalidColumn, LimitExceeded, ParseError, RainError
from rainvalleys.ratios import MOST_DIGITS
from rainvalleys.session import Session, performed
from rainvalleys.texts import parse_profile, profile_text
from rainvalleys.words import parts_of

CHARACTERS = "0123456789abcdefghijklmnopqrstuvwxyz /-,"
FACTOR = 41
MODULUS = 1000003
FIRST_CHECK = 1
# For each word and the number of words of a line: what stands behind the word.
FORMS = {
    ("rain", 2): ("number",),
    ("rain", 3): ("number", "weights"),
    ("pour", 3): ("column", "number"),
    ("pump", 3): ("column", "number"),
    ("dry", 2): ("number",),
}


def check_after(check, text):
    """The check number of a line with this text behind a line with that one, or None if no line has this text."""
    for character in text:
        position = CHARACTERS.find(character)
        if position < 0:
            return None
        check = (check * FACTOR + position + 1) % MODULUS
    return check


def is_too_long(part):
    """Whether an integer has too many digits. Its bits come first: Python does not write much longer integers."""
    return part.bit_length() > 4 * MOST_DIGITS or len(str(part)) > MOST_DIGITS


def number_text(number):
    """The text of a number that a journal can hold."""
    if is_too_long(number.top) or is_too_long(number.bottom):
        raise LimitExceeded(MOST_DIGITS)
    return str(number)


def operation_text(operation):
    """The text of the line for an operation of a history."""
    word = operation[0]
    if word == "dry":
        return f"{word} {number_text(operation[1])}"
    if word != "rain":
        return f"{word} {operation[1]} {number_text(operation[2])}"
    text = f"{word} {number_text(operation[1])}"
    if operation[2] is None:
        return text
    weights = ",".join([str(weight) for weight in operation[2]])
    return f"{text} {weights}"


def journal(session):
    """The journal of a session."""
    texts = [f"profile {profile_text(session.flood().profile)}"]
    texts.extend([operation_text(operation) for operation in session.history()])
    lines = []
    check = FIRST_CHECK
    for text in texts:
        check = check_after(check, text)
        lines.append(f"{text} #{check}")
    return "\n".join(lines)


def checked_line(check, line):
    """The text and the check number of a line behind one with that check number, or None if it is not right."""
    text = line.rpartition(" #")[0]
    found = check_after(check, text)
    if found is None or line != f"{text} #{found}":
        return None
    return text, found


def operation_of(text):
    """The operation that the text of a line tells, or None if it tells none."""
    words = text.split(" ")
    form = FORMS.get((words[0], len(words)))
    if form is None:
        return None
    parts = parts_of(form, words[1:], MOST_DIGITS)
    if parts is None:
        return None
    if form == ("number",) and words[0] == "rain":
        parts.append(None)
    return (words[0], *parts)


def started(text):
    """The session that the text of a first line starts, or None if it starts none."""
    if not text.startswith("profile "):
        return None
    try:
        return Session(parse_profile(text.removeprefix("profile ")))
    except ParseError:
        return None


def repeated(session, text):
    """Perform the operation that the text of a line tells, and return whether this is possible."""
    operation = operation_of(text)
    if operation is None:
        return False
    try:
        performed(session, operation)
    except (RainError, InvalidColumn):
        return False
    return True


def recovered(text):
    """A session with the operations of the whole valid lines with which a text begins, and their number."""
    if not isinstance(text, str):
        raise ParseError(text)
    lines = text.split("\n")
    found = checked_line(FIRST_CHECK, lines[0])
    if found is None:
        raise ParseError(text)
    session = started(found[0])
    if session is None:
        raise ParseError(text)
    count = 1
    for line in lines[1:]:
        found = checked_line(found[1], line)
        if found is None or not repeated(session, found[0]):
            break
        count += 1
    return session, count
