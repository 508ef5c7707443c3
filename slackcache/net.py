"""The net: a store, the nodes below it, and the deeds that are done on them."""

from slackcache.deeds import is_deed
from slackcache.errors import (
    Busy,
    CacheError,
    HasChildren,
    InvalidAllowance,
    InvalidDeed,
    InvalidHistory,
    InvalidKeys,
    InvalidName,
    InvalidNeed,
    InvalidValue,
    LimitExceeded,
    NameTaken,
    NoCopy,
    NoMessage,
    NotCrashed,
    NotReady,
    TooLow,
    UnknownKey,
    UnknownNode,
    UnknownQuestion,
)
from slackcache.flow import (
    ARRIVALS,
    accept,
    add_child,
    ask,
    bring_back,
    remove_entries,
    settle,
    take_crash,
    take_leave,
)
from slackcache.state import STORE, State
from slackcache.words import are_allowances, are_keys, is_allowance, is_integer_within, is_word

MOST_WAITING = 20
GREATEST_NEED = 999


class Net:
    """Each deed checks all its errors first, so that a refused deed changes nothing."""

    MOST = 12

    def __init__(self, keys):
        if not are_keys(keys):
            raise InvalidKeys(keys)
        self.words = tuple(keys)
        self.core = State(self, self.words)
        self.done = []

    @property
    def key_names(self):
        return self.words

    @property
    def names(self):
        return tuple(self.core.nodes)

    @property
    def history(self):
        return tuple(self.done)

    @property
    def order(self):
        return tuple(self.core.accepted)

    def __len__(self):
        return len(self.core.nodes)

    def __contains__(self, x):
        return isinstance(x, str) and x in self.core.nodes

    def __getitem__(self, at):
        nodes = self.core.nodes
        if not isinstance(at, str) or at not in nodes:
            raise UnknownNode(at)
        return nodes[at]

    def __iter__(self):
        raise TypeError("a net is not iterated over")

    def __eq__(self, other):
        return isinstance(other, Net) and self.words == other.words and self.done == other.done

    def check_lower_node(self, name):
        """Check that a node is there and is not the store."""
        if not isinstance(name, str) or name not in self.core.nodes or name == STORE:
            raise UnknownNode(name)

    def check_key(self, key):
        if not isinstance(key, str) or key not in self.words:
            raise UnknownKey(key)

    def check_need(self, key, need, floor):
        if not isinstance(need, int) or isinstance(need, bool) or not 0 <= need <= GREATEST_NEED:
            raise InvalidNeed(need)
        number = self.core.top.copies[key][0]
        if not isinstance(floor, int) or isinstance(floor, bool) or not 0 <= floor <= number:
            raise InvalidNeed(floor)

    def join(self, name, parent, allowances):
        if not is_word(name):
            raise InvalidName(name)
        state = self.core
        if state.is_taken(name):
            raise NameTaken(name)
        if not isinstance(parent, str) or parent not in state.nodes:
            raise UnknownNode(parent)
        if not are_allowances(allowances, self.words):
            raise InvalidAllowance(allowances)
        if len(state.nodes) >= Net.MOST:
            raise LimitExceeded(Net.MOST)
        above = state.nodes[parent]
        if len(above.copies) < len(self.words):
            raise NotReady(parent)
        granted = {}
        for key in self.words:
            granted[key] = allowances[key]
            if granted[key] < above.slacks[key]:
                raise TooLow(above.slacks[key])
        self.done.append(("join", name, parent, tuple(granted.items())))
        add_child(state, above, name, granted)

    def write(self, key, value):
        """Return the new number, or None if the write waits."""
        if not isinstance(key, str) or key not in self.words:
            raise UnknownKey(key)
        if not isinstance(value, int) or isinstance(value, bool):
            raise InvalidValue(value)
        state = self.core
        if len(state.kept[key]) >= MOST_WAITING:
            raise LimitExceeded(MOST_WAITING)
        self.done.append(("write", key, value))
        number = accept(state, key, value)
        if number is None:
            state.kept[key].append(value)
        return number

    def read(self, name, key, need, *, floor=0):
        """Return the question number."""
        nodes = self.core.nodes
        if not isinstance(name, str) or name not in nodes:
            raise UnknownNode(name)
        if not isinstance(key, str) or key not in self.words:
            raise UnknownKey(key)
        self.check_need(key, need, floor)
        self.done.append(("read", name, key, need, floor))
        return ask(self.core, nodes[name], key, need, floor)

    def change(self, name, key, allowance):
        self.check_lower_node(name)
        self.check_key(key)
        if not is_allowance(allowance):
            raise InvalidAllowance(allowance)
        state = self.core
        entry = state.nodes[name].row
        if key in entry.raising:
            raise Busy(name)
        if allowance < entry.granted[key]:
            node = state.nodes[state.nodes[name].above]
            least = node.least_grant(entry, key)
            if allowance < least:
                raise TooLow(least)
            entry.granted[key] = allowance
            entry.down.append(("lower", key, allowance))
            settle(state, node, key)
        elif allowance > entry.granted[key]:
            entry.raising[key] = True
            entry.down.append(("raise", key, allowance))
        self.done.append(("change", name, key, allowance))

    def deliver(self, sender, receiver):
        """Deliver the first message of a link and return it."""
        if not isinstance(sender, str) or not isinstance(receiver, str):
            raise NoMessage(sender, receiver)
        state = self.core
        queue = state.queues.get((sender, receiver))
        if not queue:
            raise NoMessage(sender, receiver)
        message = queue.pop(0)
        arrive = ARRIVALS[message[0]]
        arrive(state, state.nodes[receiver], sender, message)
        self.done.append(("deliver", sender, receiver))
        return message

    def leave(self, name):
        self.check_lower_node(name)
        if self.core.nodes[name].entries:
            raise HasChildren(name)
        take_leave(self.core, name)
        self.done.append(("leave", name))

    def crash(self, name):
        self.check_lower_node(name)
        take_crash(self.core, name)
        self.done.append(("crash", name))

    def forget(self, name):
        parent = self.find_keeper(name)
        remove_entries(self.core, parent, name)
        self.done.append(("forget", name))

    def recover(self, name):
        parent = self.find_keeper(name)
        if len(self) >= Net.MOST:
            raise LimitExceeded(Net.MOST)
        bring_back(self.core, parent, name)
        self.done.append(("recover", name))

    def find_keeper(self, name):
        """The node that keeps the entries of a crashed node of this name."""
        parent = None
        if isinstance(name, str):
            parent = self.core.keeper(name)
        if parent is None:
            raise NotCrashed(name)
        return parent

    def perform(self, deed):
        """Do a deed as it is noted, and return its result."""
        if not is_deed(deed, self.words):
            raise InvalidDeed(deed)
        match deed[0]:
            case "deliver":
                return self.deliver(deed[1], deed[2])
            case "write":
                return self.write(deed[1], deed[2])
            case "read":
                return self.read(deed[1], deed[2], deed[3], floor=deed[4])
            case "change":
                return self.change(deed[1], deed[2], deed[3])
            case "join":
                return self.join(deed[1], deed[2], dict(deed[3]))
            case "leave":
                return self.leave(deed[1])
            case "crash":
                return self.crash(deed[1])
            case "forget":
                return self.forget(deed[1])
            case _:
                return self.recover(deed[1])

    def answer(self, question):
        """A tuple (number, value, name), or None if there is no answer (yet)."""
        if not is_integer_within(question, 1, self.core.questions):
            raise UnknownQuestion(question)
        return self.core.answered.get(question)

    def number(self, key):
        self.check_key(key)
        return self.core.top.copies[key][0]

    def waiting(self, key):
        """The values of the writes that wait, in order."""
        self.check_key(key)
        return list(self.core.kept[key])

    def age(self, name, key):
        """How many writes the copy of a node lacks."""
        nodes = self.core.nodes
        if not isinstance(name, str) or name not in nodes:
            raise UnknownNode(name)
        copies = nodes[name].copies
        if not isinstance(key, str) or key not in copies:
            self.check_key(key)
            raise NoCopy(key)
        return self.core.top.copies[key][0] - copies[key][0]

    def messages(self, sender, receiver):
        """The messages of a link in order; none for any other objects."""
        if not isinstance(sender, str) or not isinstance(receiver, str):
            return []
        return list(self.core.queues.get((sender, receiver), []))

    def links(self):
        """The links that have messages, in ascending order."""
        busy = []
        for link, queue in self.core.queues.items():
            if queue:
                busy.append(link)
        yield from sorted(busy)

    def copy(self):
        """An independent net with the same history."""
        twin = Net(self.words)
        twin.core = self.core.copied(twin)
        twin.done = list(self.done)
        return twin

    @classmethod
    def replay(cls, keys, history):
        """A new net on which the deeds of a history were done."""
        net = cls(keys)
        if not isinstance(history, (list, tuple)):
            raise InvalidHistory(None)
        for index, deed in enumerate(history):
            try:
                net.perform(deed)
            except CacheError:
                raise InvalidHistory(index) from None
        return net
