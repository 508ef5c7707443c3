"""The net: a store, the nodes below it, and the deeds that are done on them."""

from slackcache.cache import Cache, copied_entry, copied_node
from slackcache.deeds import are_pairs
from slackcache.errors import (
    Busy,
    CacheError,
    HasChildren,
    InvalidAllowance,
    InvalidDeed,
    InvalidHistory,
    InvalidKeys,
    InvalidName,
    InvalidNeed,
    InvalidValue,
    LimitExceeded,
    NameTaken,
    NoCopy,
    NoMessage,
    NotCrashed,
    NotReady,
    TooLow,
    UnknownKey,
    UnknownNode,
    UnknownQuestion,
)
from slackcache.flow import (
    ARRIVALS,
    STORE,
    accept,
    add_child,
    ask,
    bring_back,
    remove_entries,
    set_allowance,
    take_crash,
    take_leave,
)
from slackcache.words import are_allowances, are_keys, is_allowance, is_integer_within, is_word

MOST_WAITING = 20
GREATEST_NEED = 999


class Net:
    """Each deed checks all its errors first, so that a refused deed changes nothing."""

    MOST = 12

    def __init__(self, keys):
        if not are_keys(keys):
            raise InvalidKeys(keys)
        self.words = tuple(keys)
        # The store's own node; for the store, told is its number and the allowance is 0.
        self.top = Cache(self, STORE, None, None, {key: ((0, 0), 0, 0, None) for key in self.words})
        # In the order in which they joined or last recovered, so parents before children; and their names.
        self.nodes = {STORE: self.top}
        self.labels = (STORE,)
        # By children, the entries of all nodes.
        self.rows = {}
        self.done = []
        # The values of the writes that wait.
        self.kept = {key: () for key in self.words}
        # The keys of the accepted writes, and after how many deeds each was accepted.
        self.accepted = []
        self.stamps = []
        # How many questions were asked.
        self.questions = 0
        # The nodes to which an answer must go back, from the asked node upwards, for
        # each question that is neither answered nor lost.
        self.trails = {}
        self.answered = {}
        # By questions, from the moment when a node gives the answer.
        self.receipts = {}

    @property
    def key_names(self):
        return self.words

    @property
    def names(self):
        return self.labels

    @property
    def history(self):
        return tuple(self.done)

    @property
    def order(self):
        return tuple(self.accepted)

    def __len__(self):
        return len(self.nodes)

    def __contains__(self, x):
        return isinstance(x, str) and x in self.nodes

    def __getitem__(self, at):
        if isinstance(at, str):
            try:
                return self.nodes[at]
            except KeyError:
                pass
        raise UnknownNode(at)

    def __iter__(self):
        raise TypeError("a net is not iterated over")

    def __eq__(self, other):
        return isinstance(other, Net) and self.words == other.words and self.done == other.done

    def check_lower_node(self, name):
        """Check that a node is there and is not the store."""
        if not isinstance(name, str) or name not in self.nodes or name == STORE:
            raise UnknownNode(name)

    def check_key(self, key):
        if not isinstance(key, str) or key not in self.words:
            raise UnknownKey(key)

    def check_need(self, key, need, floor):
        if not isinstance(need, int) or isinstance(need, bool) or not 0 <= need <= GREATEST_NEED:
            raise InvalidNeed(need)
        number = self.top.cells[key][2]
        if not isinstance(floor, int) or isinstance(floor, bool) or not 0 <= floor <= number:
            raise InvalidNeed(floor)

    def join(self, name, parent, allowances):
        if not is_word(name):
            raise InvalidName(name)
        if name in self.nodes or name in self.rows:
            raise NameTaken(name)
        if not isinstance(parent, str) or parent not in self.nodes:
            raise UnknownNode(parent)
        if not are_allowances(allowances, self.words):
            raise InvalidAllowance(allowances)
        if len(self.nodes) >= Net.MOST:
            raise LimitExceeded(Net.MOST)
        above = self.nodes[parent]
        for key in self.words:
            if above.cells[key] is None:
                raise NotReady(parent)
        pairs = []
        for key in self.words:
            least = above.cells[key][1]
            if allowances[key] < least:
                raise TooLow(least)
            pairs.append((key, allowances[key]))
        self.done.append(("join", name, parent, tuple(pairs)))
        add_child(self, above, name, pairs)

    def write(self, key, value):
        """Return the new number, or None if the write waits."""
        if not isinstance(key, str) or key not in self.words:
            raise UnknownKey(key)
        if not isinstance(value, int) or isinstance(value, bool):
            raise InvalidValue(value)
        waiting = self.kept[key]
        if len(waiting) >= MOST_WAITING:
            raise LimitExceeded(MOST_WAITING)
        self.done.append(("write", key, value))
        number = accept(self, key, value)
        if number is None:
            self.kept[key] = waiting + (value,)
        return number

    def read(self, name, key, need, *, floor=0):
        """Return the question number."""
        if not isinstance(name, str) or name not in self.nodes:
            raise UnknownNode(name)
        if not isinstance(key, str) or key not in self.words:
            raise UnknownKey(key)
        self.check_need(key, need, floor)
        self.done.append(("read", name, key, need, floor))
        return ask(self, self.nodes[name], key, need, floor)

    def change(self, name, key, allowance):
        self.check_lower_node(name)
        if not isinstance(key, str) or key not in self.words:
            raise UnknownKey(key)
        if not is_allowance(allowance):
            raise InvalidAllowance(allowance)
        node = self.nodes[name]
        if key in node.row.raising:
            raise Busy(name)
        confirmed, granted = node.row.cells[key]
        if allowance < granted:
            copy, own, told, asked = self.nodes[node.above].cells[key]
            least = max(1, own, told + own - confirmed)
            if allowance < least:
                raise TooLow(least)
        self.done.append(("change", name, key, allowance))
        set_allowance(self, node, key, allowance)

    def deliver(self, sender, receiver):
        """Deliver the first message of a link and return it."""
        queue = None
        if isinstance(sender, str) and isinstance(receiver, str):
            rows = self.rows
            if sender in rows and rows[sender].above == receiver:
                queue = rows[sender].up
            elif receiver in rows and rows[receiver].above == sender:
                queue = rows[receiver].down
        if not queue:
            raise NoMessage(sender, receiver)
        self.done.append(("deliver", sender, receiver))
        message = queue.pop(0)
        arrive = ARRIVALS[message[0]]
        arrive(self, self.nodes[receiver], sender, message)
        return message

    def leave(self, name):
        self.check_lower_node(name)
        if self.nodes[name].entries:
            raise HasChildren(name)
        self.done.append(("leave", name))
        take_leave(self, name)

    def crash(self, name):
        self.check_lower_node(name)
        self.done.append(("crash", name))
        take_crash(self, name)

    def forget(self, name):
        parent = self.find_keeper(name)
        self.done.append(("forget", name))
        remove_entries(self, parent, name)

    def recover(self, name):
        parent = self.find_keeper(name)
        if len(self.nodes) >= Net.MOST:
            raise LimitExceeded(Net.MOST)
        self.done.append(("recover", name))
        bring_back(self, parent, name)

    def find_keeper(self, name):
        """The node that keeps the entries of a crashed node of this name."""
        if not isinstance(name, str) or name not in self.rows or not self.rows[name].crashed:
            raise NotCrashed(name)
        return self.nodes[self.rows[name].above]

    def perform(self, deed):
        """Do a deed as it is noted, and return its result."""
        if not isinstance(deed, tuple) or not deed or not isinstance(deed[0], str):
            raise InvalidDeed(deed)
        size = len(deed)
        match deed[0]:
            case "deliver" if size == 3:
                return self.deliver(deed[1], deed[2])
            case "write" if size == 3:
                return self.write(deed[1], deed[2])
            case "read" if size == 5:
                return self.read(deed[1], deed[2], deed[3], floor=deed[4])
            case "change" if size == 4:
                return self.change(deed[1], deed[2], deed[3])
            case "join" if size == 4:
                if not are_pairs(deed[3], self.words):
                    raise InvalidDeed(deed)
                return self.join(deed[1], deed[2], dict(deed[3]))
            case "leave" if size == 2:
                return self.leave(deed[1])
            case "crash" if size == 2:
                return self.crash(deed[1])
            case "forget" if size == 2:
                return self.forget(deed[1])
            case "recover" if size == 2:
                return self.recover(deed[1])
            case _:
                raise InvalidDeed(deed)

    def answer(self, question):
        """A tuple (number, value, name), or None if there is no answer (yet)."""
        if not is_integer_within(question, 1, self.questions):
            raise UnknownQuestion(question)
        return self.answered.get(question)

    def number(self, key):
        if not isinstance(key, str) or key not in self.words:
            raise UnknownKey(key)
        return self.top.cells[key][2]

    def waiting(self, key):
        """The values of the writes that wait, in order."""
        if not isinstance(key, str) or key not in self.words:
            raise UnknownKey(key)
        return list(self.kept[key])

    def age(self, name, key):
        """How many writes the copy of a node lacks."""
        if not isinstance(name, str) or name not in self.nodes:
            raise UnknownNode(name)
        self.check_key(key)
        cell = self.nodes[name].cells[key]
        if cell is None:
            raise NoCopy(key)
        return self.top.cells[key][2] - cell[0][0]

    def messages(self, sender, receiver):
        """The messages of a link in order; none for any other objects."""
        rows = self.rows
        if isinstance(sender, str) and isinstance(receiver, str):
            if receiver in rows and rows[receiver].above == sender:
                return list(rows[receiver].down)
            if sender in rows and rows[sender].above == receiver:
                return list(rows[sender].up)
        return []

    def links(self):
        """The links that have messages, in ascending order."""
        busy = []
        for row in self.rows.values():
            if row.down:
                busy.append(row.down_link)
            if row.up:
                busy.append(row.up_link)
        yield from sorted(busy)

    def copy(self):
        """An independent net with the same history."""
        twin = Net(self.words)
        twin.rows = {child: copied_entry(self.rows[child]) for child in self.rows}
        twin.nodes = {name: copied_node(self.nodes[name], twin) for name in self.nodes}
        twin.top = twin.nodes[STORE]
        twin.labels = self.labels
        twin.done = list(self.done)
        twin.kept = dict(self.kept)
        twin.accepted = list(self.accepted)
        twin.stamps = list(self.stamps)
        twin.questions = self.questions
        twin.trails = dict(self.trails)
        twin.answered = dict(self.answered)
        twin.receipts = dict(self.receipts)
        return twin

    @classmethod
    def replay(cls, keys, history):
        """A new net on which the deeds of a history were done."""
        net = cls(keys)
        if not isinstance(history, (list, tuple)):
            raise InvalidHistory(None)
        for index, deed in enumerate(history):
            try:
                net.perform(deed)
            except CacheError:
                raise InvalidHistory(index) from None
        return net
