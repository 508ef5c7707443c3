"""A console: a desk that is worked by commands in words."""

from slackcache.conditions import parse_condition
from slackcache.deeds import read_deed, read_items, with_keys
from slackcache.desk import Desk
from slackcache.errors import InvalidCommand, InvalidCondition
from slackcache.texts import format_deed, spaced
from slackcache.waits import freeing, sharp, waits
from slackcache.words import are_keys

# What follows the name of each command, but for those with keys, a deed or a condition.
FORMS = {
    "undo": ("word", "word"),
    "redo": ("word", "word"),
    "drop": ("word", "word"),
    "fork": ("word", "word", "word"),
    "nets": (),
    "answer": ("word", "integer"),
    "waits": ("word", "word"),
    "free": ("word", "word"),
    "sharp": ("word", "word", "word"),
}
NOTHING = "-"


def result_text(result):
    """The text of the result of a deed."""
    if result is None:
        return "ok"
    return spaced(result) if isinstance(result, tuple) else str(result)


def rows_text(rows):
    """The texts of some rows, or a sign if there are none."""
    return "; ".join(rows) if rows else NOTHING


def read_create(words):
    items = read_items(words, ("word",) * len(words))
    if items is None or not are_keys(items[2:]):
        return None
    return ("create", items[0], items[1], items[2:])


def read_do(words):
    names = read_items(words[:2], ("word", "word"))
    deed = read_deed(words[2:]) if len(words) > 2 else None
    if names is None or deed is None:
        return None
    return ("do", names[0], names[1], deed)


def read_test(words):
    names = read_items(words[:1], ("word",))
    if names is None:
        return None
    try:
        return ("test", names[0], parse_condition(" ".join(words[1:])))
    except InvalidCondition:
        return None


def read_command(words):
    """A command as a tuple of its name and its items, or None."""
    head, rest = words[0], words[1:]
    match head:
        case "create":
            return read_create(rest)
        case "do":
            return read_do(rest)
        case "test":
            return read_test(rest)
    if head not in FORMS:
        return None
    items = read_items(rest, FORMS[head])
    if items is None or (head == "answer" and items[1] < 1):
        return None
    return (head, *items)


class Console:
    def __init__(self):
        self.desk = Desk()

    def execute(self, line):
        """Do a command and return its result."""
        command = read_command(line.split(" ")) if isinstance(line, str) else None
        if command is None:
            raise InvalidCommand(line)
        match command[0]:
            case "nets":
                return spaced(self.desk.names) if len(self.desk) > 0 else NOTHING
            case "do":
                return self.do_deed(line, command)
            case "create" | "undo" | "redo" | "fork" | "drop":
                return self.do_at_desk(command)
        return self.look(command)

    def do_deed(self, line, command):
        user, name, written = command[1:]
        deed = with_keys(written, self.desk.net_of(name).key_names)
        if deed is None:
            raise InvalidCommand(line)
        return result_text(self.desk.do(user, name, deed))

    def do_at_desk(self, command):
        head, user, name = command[:3]
        match head:
            case "create":
                return result_text(self.desk.create(user, name, command[3]))
            case "undo":
                return result_text(self.desk.undo(user, name))
            case "redo":
                return result_text(self.desk.redo(user, name))
            case "fork":
                return result_text(self.desk.fork(user, name, command[3]))
            case _:
                return result_text(self.desk.drop(user, name))

    def look(self, command):
        net, given = self.desk.net_of(command[1]), command[2]
        match command[0]:
            case "test":
                return "yes" if given(net) else "no"
            case "answer":
                answer = net.answer(given)
                return NOTHING if answer is None else spaced(answer)
            case "waits":
                return rows_text([spaced(row) for row in waits(net, given)])
            case "free":
                found = freeing(net, given)
                return NOTHING if found is None else rows_text([spaced(link) for link in found])
            case _:
                return rows_text([format_deed(deed) for deed in sharp(net, given, command[3])])
