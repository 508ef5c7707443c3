"""Logs of acts and their results, and the first wrong entry of one."""

from slackcache.acts import ACTS, is_act, is_refusal
from slackcache.errors import InvalidDeed, InvalidLog
from slackcache.net import Net

LONGEST_LOG = 5000


def fresh(obj):
    """The same object, but with new lists and dicts."""
    if isinstance(obj, list):
        return [fresh(item) for item in obj]
    if isinstance(obj, tuple):
        return tuple([fresh(item) for item in obj])
    if isinstance(obj, dict):
        return {key: fresh(obj[key]) for key in obj}
    return obj


def noted_pair(act, result):
    """What is noted of an act: lists and dicts are new, but for those within a refused act."""
    return (act if is_refusal(result) else fresh(act), fresh(result))


class Logbook:
    def __init__(self, keys):
        self.net = Net(keys)
        self.pairs = []

    def act(self, act):
        """Do an act and return its result."""
        if not is_act(act, self.net.key_names):
            raise InvalidDeed(act)
        do = ACTS[act[0]]
        result = do(self.net, act)
        self.pairs.append(noted_pair(act, result))
        return result

    @property
    def noted(self):
        return [noted_pair(act, result) for act, result in self.pairs]

    def __len__(self):
        return len(self.pairs)


def is_same(obj, result):
    """Whether any object is equal to a result, also in the kinds of all objects in it."""
    if result is None:
        return obj is None
    if isinstance(result, int):
        return isinstance(obj, int) and not isinstance(obj, bool) and obj == result
    if isinstance(result, list):
        if not isinstance(obj, list):
            return False
    elif not isinstance(obj, tuple):
        return False
    if len(obj) != len(result):
        return False
    for item, part in zip(obj, result):
        if isinstance(part, str):
            if not isinstance(item, str) or item != part:
                return False
        elif not is_same(item, part):
            return False
    return True


def is_right(net, obj):
    """Whether an object is a pair of an act and its result; the act is done on the net."""
    if not isinstance(obj, tuple) or len(obj) != 2:
        return False
    act, result = obj
    if not is_act(act, net.words):
        return False
    do = ACTS[act[0]]
    return is_same(result, do(net, act))


def first_wrong(keys, log):
    """The index of the first element of a log that is not right, or None."""
    net = Net(keys)
    if not isinstance(log, list) or len(log) > LONGEST_LOG:
        raise InvalidLog(log)
    for index, item in enumerate(log):
        if not is_right(net, item):
            return index
    return None
