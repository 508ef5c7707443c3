"""Which allowances serve needs, how to change to them, and when to push copies."""

from slackcache.errors import InvalidNeed, InvalidSequence, InvalidTarget, InvalidTree, Unsettled
from slackcache.flow import STORE
from slackcache.waits import is_settled
from slackcache.words import GREATEST_ALLOWANCE, is_allowance, is_integer, is_word

MOST_IN_TREE = 11
LONGEST_SEQUENCE = 1000


def way_up(parents, name):
    """The names from a node up to the store, or to where the way ends or comes back."""
    found = [name]
    while name != STORE and name in parents and len(found) <= len(parents) + 1:
        name = parents[name]
        found.append(name)
    return found


def is_tree(obj):
    if not isinstance(obj, dict) or not 1 <= len(obj) <= MOST_IN_TREE:
        return False
    for name in obj:
        if not is_word(name) or name == STORE or not is_word(obj[name]):
            return False
    return all([way_up(obj, name)[-1] == STORE for name in obj])


def are_needs(obj, parents):
    if not isinstance(obj, dict):
        return False
    for name in obj:
        if not isinstance(name, str) or name not in parents or not is_allowance(obj[name]):
            return False
    return True


def check_plan(parents, needs):
    if not is_tree(parents):
        raise InvalidTree(parents)
    if not are_needs(needs, parents):
        raise InvalidNeed(needs)


def greatest_allowances(parents, needs):
    """By nodes, the greatest allowance that serves the needs, and the name of a node that bars a greater one."""
    check_plan(parents, needs)
    found = {name: (GREATEST_ALLOWANCE, None) for name in parents}
    # In ascending order, so that the first node with the least need stays.
    for name in sorted(list(needs)):
        for above in way_up(parents, name)[:-1]:
            if needs[name] < found[above][0]:
                found[above] = (needs[name], name)
    return found


def serve(parents, needs, allowances):
    """Whether any object is a dict from all nodes to allowances that serve."""
    check_plan(parents, needs)
    if not isinstance(allowances, dict) or len(allowances) != len(parents):
        return False
    for name in parents:
        if name not in allowances or not is_allowance(allowances[name]):
            return False
    for name in parents:
        if parents[name] != STORE and allowances[name] < allowances[parents[name]]:
            return False
        if name in needs and allowances[name] > needs[name]:
            return False
    return True


def are_slacks(obj, keys):
    """Whether an object is a dict from all keys to allowances."""
    if not isinstance(obj, dict) or len(obj) != len(keys):
        return False
    return all([key in obj and is_allowance(obj[key]) for key in keys])


def is_target(net, obj):
    names = net.names[1:]
    keys = net.key_names
    if not isinstance(obj, dict) or len(obj) != len(names):
        return False
    for name in names:
        if name not in obj or not are_slacks(obj[name], keys):
            return False
    for name in names:
        above = net[name].parent
        if above != STORE and any([obj[name][key] < obj[above][key] for key in keys]):
            return False
    return True


class Plan:
    """Deeds that are done on a copy of a net, and noted."""

    def __init__(self, net):
        self.net = net.copy()
        self.found = []

    def note(self, deed):
        self.net.perform(deed)
        self.found.append(deed)

    def drain(self):
        links = list(self.net.links())
        while links:
            self.note(("deliver", links[0][0], links[0][1]))
            links = list(self.net.links())

    def move(self, name, key, allowance):
        self.note(("change", name, key, allowance))
        self.drain()


def path_to(net, target):
    """Deliveries and changes after which all allowances are the target's and no messages are left."""
    if not is_target(net, target):
        raise InvalidTarget(target)
    if not is_settled(net):
        raise Unsettled(STORE)
    plan = Plan(net)
    plan.drain()
    # Parents stand before children. Children are raised before their parents, and lowered
    # behind them, so that no node ever has less than its parent.
    names = list(net.names[1:])
    for key in net.key_names:
        for name in names[::-1]:
            if target[name][key] > plan.net[name].allowance(key):
                plan.move(name, key, target[name][key])
        for name in names:
            if target[name][key] < plan.net[name].allowance(key):
                plan.move(name, key, target[name][key])
    return plan.found


def is_item(obj):
    """Whether an object is "write" or ("read", need)."""
    if isinstance(obj, str):
        return obj == "write"
    if not isinstance(obj, tuple) or len(obj) != 2:
        return False
    return isinstance(obj[0], str) and obj[0] == "read" and is_integer(obj[1]) and obj[1] >= 0


def check_sequence(obj):
    if not isinstance(obj, (list, tuple)) or len(obj) > LONGEST_SEQUENCE:
        raise InvalidSequence(obj)
    if not all([is_item(item) for item in obj]):
        raise InvalidSequence(obj)


def spans(sequence):
    """For each read that needs a push, its index and the first and the last write after which a push serves it.

    The writes are counted from 1.
    """
    found = []
    writes = 0
    for at, item in enumerate(sequence):
        if isinstance(item, str):
            writes += 1
        elif writes > item[1]:
            found.append((at, writes - item[1], writes))
    return found


def fewest_pushes(sequence):
    """The indexes of as few pushes as possible, and of reads that show that no fewer do."""
    check_sequence(sequence)
    indexes = [at for at, item in enumerate(sequence) if isinstance(item, str)]
    pushes = []
    reads = []
    latest = 0
    for at, first, last in spans(sequence):
        if first > latest:
            # As late as this read allows, so that it serves as many later ones as possible.
            latest = last
            pushes.append(indexes[last - 1])
            reads.append(at)
    return (tuple(pushes), tuple(reads))


def are_indexes(obj, sequence):
    """Whether an object is a tuple of indexes in ascending order."""
    if not isinstance(obj, tuple) or not all([is_integer(item) for item in obj]):
        return False
    if not all([0 <= item < len(sequence) for item in obj]):
        return False
    return all([one < other for one, other in zip(obj[:-1], obj[1:])])


def are_served(sequence, pushes):
    """Whether pushes after these writes serve all reads without questions."""
    age = 0
    for at, item in enumerate(sequence):
        if isinstance(item, str):
            age = 0 if at in pushes else age + 1
        elif age > item[1]:
            return False
    return True


def check_pushes(sequence, obj):
    """Whether any object is such a tuple as fewest_pushes returns."""
    check_sequence(sequence)
    if not isinstance(obj, tuple) or len(obj) != 2:
        return False
    if not all([are_indexes(part, sequence) for part in obj]) or len(obj[0]) != len(obj[1]):
        return False
    pushes, reads = obj
    if not all([isinstance(sequence[at], str) for at in pushes]):
        return False
    # Each of the reads needs a push of its own, so as many pushes are the fewest if they serve.
    found = {at: (first, last) for at, first, last in spans(sequence)}
    latest = 0
    for at in reads:
        if at not in found or found[at][0] <= latest:
            return False
        latest = found[at][1]
    return are_served(sequence, pushes)


def run_policy(sequence, policy):
    """How many pushes and questions a policy costs."""
    check_sequence(sequence)
    age = 0
    pushes = 0
    questions = 0
    for at, item in enumerate(sequence):
        if isinstance(item, str):
            age += 1
            if policy(at, age):
                pushes += 1
                age = 0
        elif item[1] < age:
            questions += 1
            age = 0
    return (pushes, questions)
