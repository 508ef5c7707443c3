"""Acts: deeds and looks, and the results that a log notes for them."""

from slackcache.deeds import are_pairs
from slackcache.errors import (
    Busy,
    HasChildren,
    InvalidAllowance,
    InvalidName,
    InvalidNeed,
    InvalidValue,
    LimitExceeded,
    NameTaken,
    NoMessage,
    NotCrashed,
    NotReady,
    TooLow,
    UnknownKey,
    UnknownNode,
    UnknownQuestion,
)

UNKNOWN_NODE = ("error", "UnknownNode")
UNKNOWN_KEY = ("error", "UnknownKey")
LIMIT_EXCEEDED = ("error", "LimitExceeded")
NOT_CRASHED = ("error", "NotCrashed")

# The functions below take a net and an act with as many items as it has, and return the
# result of the act, or ("error", name of the exception's class). Each one catches only what
# its act raises, since logs are long.


def do_join(net, act):
    try:
        return net.join(act[1], act[2], dict(act[3]))
    except NameTaken:
        return ("error", "NameTaken")
    except TooLow:
        return ("error", "TooLow")
    except UnknownNode:
        return UNKNOWN_NODE
    except NotReady:
        return ("error", "NotReady")
    except InvalidName:
        return ("error", "InvalidName")
    except InvalidAllowance:
        return ("error", "InvalidAllowance")
    except LimitExceeded:
        return LIMIT_EXCEEDED


def do_write(net, act):
    try:
        return net.write(act[1], act[2])
    except UnknownKey:
        return UNKNOWN_KEY
    except InvalidValue:
        return ("error", "InvalidValue")
    except LimitExceeded:
        return LIMIT_EXCEEDED


def do_read(net, act):
    try:
        return net.read(act[1], act[2], act[3], floor=act[4])
    except UnknownNode:
        return UNKNOWN_NODE
    except UnknownKey:
        return UNKNOWN_KEY
    except InvalidNeed:
        return ("error", "InvalidNeed")


def do_change(net, act):
    try:
        return net.change(act[1], act[2], act[3])
    except UnknownNode:
        return UNKNOWN_NODE
    except TooLow:
        return ("error", "TooLow")
    except Busy:
        return ("error", "Busy")
    except UnknownKey:
        return UNKNOWN_KEY
    except InvalidAllowance:
        return ("error", "InvalidAllowance")


def do_deliver(net, act):
    try:
        return net.deliver(act[1], act[2])
    except NoMessage:
        return ("error", "NoMessage")


def do_leave(net, act):
    try:
        return net.leave(act[1])
    except UnknownNode:
        return UNKNOWN_NODE
    except HasChildren:
        return ("error", "HasChildren")


def do_crash(net, act):
    try:
        return net.crash(act[1])
    except UnknownNode:
        return UNKNOWN_NODE


def do_forget(net, act):
    try:
        return net.forget(act[1])
    except NotCrashed:
        return NOT_CRASHED


def do_recover(net, act):
    try:
        return net.recover(act[1])
    except NotCrashed:
        return NOT_CRASHED
    except LimitExceeded:
        return LIMIT_EXCEEDED


def see_number(net, act):
    key = act[1]
    if not isinstance(key, str) or key not in net.words:
        return UNKNOWN_KEY
    return net.top.cells[key][2]


def see_waiting(net, act):
    key = act[1]
    if not isinstance(key, str) or key not in net.words:
        return UNKNOWN_KEY
    return list(net.kept[key])


def see_answer(net, act):
    try:
        return net.answer(act[1])
    except UnknownQuestion:
        return ("error", "UnknownQuestion")


def see_cell(net, act):
    """What the looks show that name a node and a key."""
    verb, name, key = act
    if not isinstance(name, str) or name not in net.nodes:
        return UNKNOWN_NODE
    if not isinstance(key, str) or key not in net.words:
        return UNKNOWN_KEY
    cell = net.nodes[name].cells[key]
    if cell is None:
        return ("error", "NoCopy")
    match verb:
        case "copy":
            return cell[0]
        case "told":
            return cell[2]
        case "bound":
            return cell[2] + cell[1] - cell[0][0]
        case _:
            return net.top.cells[key][2] - cell[0][0]


def see_messages(net, act):
    return net.messages(act[1], act[2])


# By the names of the acts, what each one does, and how many items it has.
ACTS = {
    "join": do_join,
    "write": do_write,
    "read": do_read,
    "change": do_change,
    "deliver": do_deliver,
    "leave": do_leave,
    "crash": do_crash,
    "forget": do_forget,
    "recover": do_recover,
    "number": see_number,
    "waiting": see_waiting,
    "answer": see_answer,
    "age": see_cell,
    "bound": see_cell,
    "told": see_cell,
    "copy": see_cell,
    "messages": see_messages,
}
SIZES = {
    "join": 4,
    "write": 3,
    "read": 5,
    "change": 4,
    "deliver": 3,
    "leave": 2,
    "crash": 2,
    "forget": 2,
    "recover": 2,
    "number": 2,
    "waiting": 2,
    "answer": 2,
    "age": 3,
    "bound": 3,
    "told": 3,
    "copy": 3,
    "messages": 3,
}


def is_act(obj, keys):
    """Whether an object has the form of an act, whatever its arguments are."""
    if not isinstance(obj, tuple) or not obj:
        return False
    verb = obj[0]
    if not isinstance(verb, str) or verb not in SIZES or len(obj) != SIZES[verb]:
        return False
    return verb != "join" or are_pairs(obj[3], keys)


def is_refusal(result):
    """Whether a result of an act stands for an error."""
    return isinstance(result, tuple) and result[0] == "error"
