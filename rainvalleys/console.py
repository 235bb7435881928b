"""A console: sessions by name, and commands in words."""

from rainvalleys.amounts import amount_to_reach, end_amount, end_volume
from rainvalleys.errors import InvalidCommand, LimitExceeded, ParseError, UnknownName
from rainvalleys.session import Session
from rainvalleys.texts import flood_text, parse_profile
from rainvalleys.words import is_name, parts_of

MOST_SESSIONS = 8
MOST_DIGITS = 60
FORMS = {
    "drop": ("name",),
    "names": (),
    "rain": ("name", "number"),
    "pour": ("name", "column", "number"),
    "pump": ("name", "column", "number"),
    "dry": ("name", "number"),
    "undo": ("name",),
    "show": ("name",),
    "depth": ("name", "column"),
    "volumes": ("name",),
    "end": ("name",),
    "reach": ("name", "column", "number"),
}


def parts_of_new(words):
    """The name and the profile of a command that starts a session, or None if it has another form."""
    if len(words) < 2 or not is_name(words[0]):
        return None
    try:
        return [words[0], parse_profile(" ".join(words[1:]))]
    except ParseError:
        return None


def parts_of_command(words):
    """The values of the words behind the first one, or None if they form no command."""
    if words[0] == "new":
        return parts_of_new(words[1:])
    form = FORMS.get(words[0])
    if form is None or len(words) != 1 + len(form):
        return None
    return parts_of(form, words[1:], MOST_DIGITS)


def events_text(found):
    """The events, one behind the other."""
    if len(found) == 0:
        return "-"
    return "; ".join([f"{when} {word} {first} {last}" for when, word, first, last in found])


def told(flood, word, given):
    """What a flood answers to a command that changes nothing."""
    if word == "show":
        return flood_text(flood).replace("\n", "; ")
    if word == "depth":
        return str(flood.depth(given[0]))
    if word == "volumes":
        return f"{flood.stored} {flood.left} {flood.right} {flood.taken}"
    if word == "end":
        return f"{end_volume(flood.profile)} {end_amount(flood.profile)}"
    amount = amount_to_reach(flood.profile, given[0], given[1])
    if amount is None:
        return "never"
    return str(amount)


def answer(session, word, given):
    """What a session answers to a command with these values behind the name."""
    if word == "rain":
        return events_text(session.rain(given[0]))
    if word == "pour":
        return events_text(session.pour(given[0], given[1]))
    if word == "pump":
        return str(session.pump(given[0], given[1]))
    if word == "dry":
        return str(session.dry(given[0]))
    if word == "undo":
        session.undo()
        return "ok"
    return told(session.flood(), word, given)


class Console:
    """Up to eight sessions by name."""

    def __init__(self):
        self.sessions = {}

    def execute(self, command):
        """Run a command and return what it answers."""
        if not isinstance(command, str):
            raise InvalidCommand(command)
        words = command.split(" ")
        parts = parts_of_command(words)
        if parts is None:
            raise InvalidCommand(command)
        if words[0] == "names":
            return self.all_names()
        if words[0] == "new":
            return self.start(parts[0], parts[1])
        name = parts[0]
        if name not in self.sessions:
            raise UnknownName(name)
        if words[0] == "drop":
            del self.sessions[name]
            return "ok"
        return answer(self.sessions[name], words[0], parts[1:])

    def all_names(self):
        """The names in alphabetical order."""
        if len(self.sessions) == 0:
            return "-"
        return " ".join(sorted([str(name) for name in self.sessions]))

    def start(self, name, profile):
        """Start a session, in place of the one that has this name."""
        if name not in self.sessions and len(self.sessions) == MOST_SESSIONS:
            raise LimitExceeded(MOST_SESSIONS)
        self.sessions[name] = Session(profile)
        return "ok"

    def __len__(self):
        return len(self.sessions)
