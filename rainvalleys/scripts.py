"""Scripts: texts that tell what happens to a flood."""

from rainvalleys.errors import InvalidNumber, ScriptError
from rainvalleys.grammar import Reader
from rainvalleys.integers import is_whole_within
from rainvalleys.phrases import block_lines
from rainvalleys.runs import Run

MOST_CHARACTERS = 4000
MOST_LETTERS = 12
MOST_DIGITS = 60
MOST_STEPS = 10000
LETTERS = "abcdefghijklmnopqrstuvwxyz"
DIGITS = "0123456789"
LONG_SYMBOLS = ("<=", ">=", "==", "!=")
SYMBOLS = "+-*/(){},=<>"
ENDS = ";\n"


def behind_gap(text, at):
    """The index behind the blanks and the remark that begin here."""
    while at < len(text) and text[at] == " ":
        at += 1
    if at < len(text) and text[at] == "#":
        while at < len(text) and text[at] != "\n":
            at += 1
    return at


def run_end(text, at, characters, most):
    """The index behind the longest run of at most so many of these characters that begins here."""
    end = at
    while end < len(text) and end - at < most and text[end] in characters:
        end += 1
    return end


def token_at(text, at):
    """The kind of the longest token that begins here, and the index behind it; no kind if there is no token."""
    character = text[at]
    if character in LETTERS:
        return "name", run_end(text, at, LETTERS, MOST_LETTERS)
    if character in DIGITS:
        return "number", run_end(text, at, DIGITS, MOST_DIGITS)
    if character in ENDS:
        return "end", at + 1
    if text[at:at + 2] in LONG_SYMBOLS:
        return "symbol", at + 2
    if character in SYMBOLS:
        return "symbol", at + 1
    return None, at


def tokens(text):
    """The tokens of a script as tuples of the line, the kind and the token."""
    if not isinstance(text, str) or len(text) > MOST_CHARACTERS:
        raise ScriptError(None)
    found = []
    line = 1
    at = behind_gap(text, 0)
    while at < len(text):
        kind, end = token_at(text, at)
        if kind is None:
            raise ScriptError(line)
        found.append((line, kind, text[at:end]))
        if text[at] == "\n":
            line += 1
        at = behind_gap(text, end)
    return found


def parse_script(text):
    """The statements of a script."""
    row = tokens(text)
    return Reader(row, 1 + text.count("\n")).read_script()


def script_text(statements):
    """A text of these statements."""
    return "\n".join(block_lines(statements))


def run_script(flood, text, *, limit=1000):
    """Perform a script on a flood and return the printed values."""
    statements = parse_script(text)
    if not is_whole_within(limit, 1, MOST_STEPS):
        raise InvalidNumber(limit)
    # The run has a flood of its own, so that an error in the middle of it leaves the given one as it is.
    run = Run(flood.clone(), limit)
    run.perform_all(statements)
    flood.return_to(run.site.snapshot())
    return run.printed
