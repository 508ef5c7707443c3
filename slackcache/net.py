"""The net: a store, the nodes below it, and the deeds that are done on them."""

from slackcache.cache import Cache
from slackcache.deeds import is_deed
from slackcache.errors import (
    Busy,
    CacheError,
    HasChildren,
    InvalidAllowance,
    InvalidDeed,
    InvalidHistory,
    InvalidKeys,
    InvalidName,
    InvalidNeed,
    InvalidValue,
    LimitExceeded,
    NameTaken,
    NoCopy,
    NoMessage,
    NotCrashed,
    NotReady,
    TooLow,
    UnknownKey,
    UnknownNode,
    UnknownQuestion,
)
from slackcache.flow import (
    accept,
    add_child,
    ask,
    bring_back,
    has_room,
    remove_entries,
    send,
    settle,
    take,
    take_crash,
    take_leave,
)
from slackcache.state import STORE, State
from slackcache.words import (
    are_allowances,
    are_keys,
    is_allowance,
    is_integer,
    is_integer_within,
    is_word,
)

MOST_WAITING = 20
GREATEST_NEED = 999


class Net:
    """Each deed checks all its errors first, so that a refused deed changes nothing."""

    MOST = 12

    def __init__(self, keys):
        if not are_keys(keys):
            raise InvalidKeys(keys)
        self.words = tuple(keys)
        self.core = State(self.words)
        self.done = []

    @property
    def key_names(self):
        return self.words

    @property
    def names(self):
        return tuple(self.core.nodes)

    @property
    def history(self):
        return tuple(self.done)

    @property
    def order(self):
        return tuple(self.core.accepted)

    def __len__(self):
        return len(self.core.nodes)

    def __contains__(self, x):
        return isinstance(x, str) and x in self.core.nodes

    def __getitem__(self, at):
        self.check_node(at)
        return Cache(self, at)

    def __iter__(self):
        raise TypeError("a net is not iterated over")

    def __eq__(self, other):
        return isinstance(other, Net) and self.words == other.words and self.done == other.done

    def check_node(self, name):
        if name not in self:
            raise UnknownNode(name)

    def check_lower_node(self, name):
        """Check that a node is there and is not the store."""
        if name not in self or name == STORE:
            raise UnknownNode(name)

    def check_key(self, key):
        if not isinstance(key, str) or key not in self.words:
            raise UnknownKey(key)

    def check_need(self, key, need, floor):
        if not is_integer_within(need, 0, GREATEST_NEED):
            raise InvalidNeed(need)
        if not is_integer_within(floor, 0, self.core.store().version(key)):
            raise InvalidNeed(floor)

    def join(self, name, parent, allowances):
        if not is_word(name):
            raise InvalidName(name)
        if self.core.is_taken(name):
            raise NameTaken(name)
        self.check_node(parent)
        if not are_allowances(allowances, self.words):
            raise InvalidAllowance(allowances)
        if len(self) >= Net.MOST:
            raise LimitExceeded(Net.MOST)
        above = self.core.nodes[parent]
        if len(above.copies) < len(self.words):
            raise NotReady(parent)
        for key in self.words:
            if allowances[key] < above.slacks[key]:
                raise TooLow(above.slacks[key])
        pairs = [(key, allowances[key]) for key in self.words]
        add_child(self.core, parent, name, dict(pairs))
        self.done.append(("join", name, parent, tuple(pairs)))

    def write(self, key, value):
        """Return the new number, or None if the write waits."""
        self.check_key(key)
        if not is_integer(value):
            raise InvalidValue(value)
        if len(self.core.kept[key]) >= MOST_WAITING:
            raise LimitExceeded(MOST_WAITING)
        self.done.append(("write", key, value))
        if has_room(self.core, key):
            return accept(self.core, key, value)
        self.core.kept[key].append(value)
        return None

    def read(self, name, key, need, *, floor=0):
        """Return the question number."""
        self.check_node(name)
        self.check_key(key)
        self.check_need(key, need, floor)
        self.done.append(("read", name, key, need, floor))
        return ask(self.core, name, key, need, floor)

    def change(self, name, key, allowance):
        self.check_lower_node(name)
        self.check_key(key)
        if not is_allowance(allowance):
            raise InvalidAllowance(allowance)
        parent = self.core.nodes[name].above
        node = self.core.nodes[parent]
        entry = node.entries[name]
        if key in entry.raising:
            raise Busy(name)
        if allowance < entry.granted[key]:
            least = node.least_grant(name, key)
            if allowance < least:
                raise TooLow(least)
            entry.granted[key] = allowance
            send(self.core, parent, name, ("lower", key, allowance))
            settle(self.core, parent, key)
        elif allowance > entry.granted[key]:
            entry.raising[key] = True
            send(self.core, parent, name, ("raise", key, allowance))
        self.done.append(("change", name, key, allowance))

    def deliver(self, sender, receiver):
        """Deliver the first message of a link and return it."""
        queue = self.messages(sender, receiver)
        if not queue:
            raise NoMessage(sender, receiver)
        link = (sender, receiver)
        if len(queue) == 1:
            del self.core.queues[link]
        else:
            self.core.queues[link] = queue[1:]
        take(self.core, sender, receiver, queue[0])
        self.done.append(("deliver", sender, receiver))
        return queue[0]

    def leave(self, name):
        self.check_lower_node(name)
        if self.core.nodes[name].entries:
            raise HasChildren(name)
        take_leave(self.core, name)
        self.done.append(("leave", name))

    def crash(self, name):
        self.check_lower_node(name)
        take_crash(self.core, name)
        self.done.append(("crash", name))

    def forget(self, name):
        parent = self.find_keeper(name)
        remove_entries(self.core, parent, name)
        self.done.append(("forget", name))

    def recover(self, name):
        parent = self.find_keeper(name)
        if len(self) >= Net.MOST:
            raise LimitExceeded(Net.MOST)
        bring_back(self.core, parent, name)
        self.done.append(("recover", name))

    def find_keeper(self, name):
        """The name of the node that keeps the entries of a crashed node."""
        parent = None
        if isinstance(name, str):
            parent = self.core.keeper(name)
        if parent is None:
            raise NotCrashed(name)
        return parent

    def perform(self, deed):
        """Do a deed as it is noted, and return its result."""
        if not is_deed(deed, self.words):
            raise InvalidDeed(deed)
        verb, *rest = deed
        match verb:
            case "join":
                return self.join(rest[0], rest[1], dict(rest[2]))
            case "write":
                return self.write(rest[0], rest[1])
            case "read":
                return self.read(rest[0], rest[1], rest[2], floor=rest[3])
            case "change":
                return self.change(rest[0], rest[1], rest[2])
            case "deliver":
                return self.deliver(rest[0], rest[1])
            case "leave":
                return self.leave(rest[0])
            case "crash":
                return self.crash(rest[0])
            case "forget":
                return self.forget(rest[0])
            case _:
                return self.recover(rest[0])

    def answer(self, question):
        """A tuple (number, value, name), or None if there is no answer (yet)."""
        if not is_integer_within(question, 1, self.core.questions):
            raise UnknownQuestion(question)
        return self.core.answered.get(question)

    def number(self, key):
        self.check_key(key)
        return self.core.store().version(key)

    def waiting(self, key):
        """The values of the writes that wait, in order."""
        self.check_key(key)
        return list(self.core.kept[key])

    def age(self, name, key):
        """How many writes the copy of a node lacks."""
        self.check_node(name)
        self.check_key(key)
        node = self.core.nodes[name]
        if key not in node.copies:
            raise NoCopy(key)
        return self.core.store().version(key) - node.version(key)

    def messages(self, sender, receiver):
        """The messages of a link in order; none for any other objects."""
        if not isinstance(sender, str) or not isinstance(receiver, str):
            return []
        return list(self.core.queues.get((sender, receiver), []))

    def links(self):
        """The links that have messages, in ascending order."""
        for link in sorted(list(self.core.queues)):
            yield link

    def copy(self):
        """An independent net with the same history."""
        twin = Net(self.words)
        twin.core = self.core.copied()
        twin.done = list(self.done)
        return twin

    @classmethod
    def replay(cls, keys, history):
        """A new net on which the deeds of a history were done."""
        net = cls(keys)
        if not isinstance(history, (list, tuple)):
            raise InvalidHistory(None)
        for index, deed in enumerate(history):
            try:
                net.perform(deed)
            except CacheError:
                raise InvalidHistory(index) from None
        return net
