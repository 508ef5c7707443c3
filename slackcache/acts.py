"""Acts: deeds and looks, and the results that a log notes for them."""

from slackcache.deeds import is_deed
from slackcache.errors import (
    Busy,
    HasChildren,
    InvalidAllowance,
    InvalidName,
    InvalidNeed,
    InvalidValue,
    LimitExceeded,
    NameTaken,
    NoCopy,
    NoMessage,
    NotCrashed,
    NotReady,
    TooLow,
    UnknownKey,
    UnknownNode,
    UnknownQuestion,
)

# The number of items of each look: its name and its arguments.
LOOKS = {
    "number": 2,
    "waiting": 2,
    "answer": 2,
    "age": 3,
    "bound": 3,
    "told": 3,
    "copy": 3,
    "messages": 3,
}


def is_look(obj):
    if not isinstance(obj, tuple) or not obj or not isinstance(obj[0], str):
        return False
    return len(obj) == LOOKS.get(obj[0])


def is_act(obj, keys):
    """Whether an object has the form of an act, whatever its arguments are."""
    return is_look(obj) or is_deed(obj, keys)


def look(net, act):
    match act[0]:
        case "number":
            return net.number(act[1])
        case "waiting":
            return net.waiting(act[1])
        case "answer":
            return net.answer(act[1])
        case "age":
            return net.age(act[1], act[2])
        case "bound":
            return net[act[1]].bound(act[2])
        case "told":
            return net[act[1]].told(act[2])
        case "copy":
            return net[act[1]][act[2]]
        case _:
            return net.messages(act[1], act[2])


def outcome_of_deed(net, deed):
    """The result of a deed, or ("error", name of the exception's class)."""
    try:
        return net.perform(deed)
    except InvalidName:
        return ("error", "InvalidName")
    except NameTaken:
        return ("error", "NameTaken")
    except UnknownNode:
        return ("error", "UnknownNode")
    except InvalidAllowance:
        return ("error", "InvalidAllowance")
    except LimitExceeded:
        return ("error", "LimitExceeded")
    except NotReady:
        return ("error", "NotReady")
    except TooLow:
        return ("error", "TooLow")
    except UnknownKey:
        return ("error", "UnknownKey")
    except InvalidValue:
        return ("error", "InvalidValue")
    except InvalidNeed:
        return ("error", "InvalidNeed")
    except Busy:
        return ("error", "Busy")
    except NoMessage:
        return ("error", "NoMessage")
    except HasChildren:
        return ("error", "HasChildren")
    except NotCrashed:
        return ("error", "NotCrashed")


def outcome_of_look(net, act):
    """The result of a look, or ("error", name of the exception's class)."""
    try:
        return look(net, act)
    except UnknownNode:
        return ("error", "UnknownNode")
    except UnknownKey:
        return ("error", "UnknownKey")
    except UnknownQuestion:
        return ("error", "UnknownQuestion")
    except NoCopy:
        return ("error", "NoCopy")


def outcome(net, act):
    return outcome_of_look(net, act) if is_look(act) else outcome_of_deed(net, act)
