"""One node of a net: what it holds, and how it is shown."""

from slackcache.errors import NoCopy, UnknownKey, UnknownNode


class Cache:
    """The net holds its nodes as these very objects, so that nothing is made for a look.

    A cache that was taken from a net stays with the name: when its node is gone and a
    node of this name is there again, it shows that one.
    """

    def __init__(self, home, label, above, row):
        # The net, the name of the parent, and the entry there (None for the store).
        self.home = home
        self.label = label
        self.above = above
        self.row = row
        # Whether the node has left or crashed.
        self.gone = False
        # By keys; a key is missing here as long as there is no copy of it.
        self.copies = {}
        self.slacks = {}
        self.reported = {}
        # The allowances that it was asked to agree to and has not agreed to.
        self.asked = {}
        # By children, in the order in which they joined.
        self.entries = {}

    def copied(self, home, row):
        """This node as a node of another net, with the entry there."""
        twin = Cache(home, self.label, self.above, row)
        twin.copies = dict(self.copies)
        twin.slacks = dict(self.slacks)
        twin.reported = dict(self.reported)
        twin.asked = dict(self.asked)
        twin.entries = {child: self.entries[child].copied() for child in self.entries}
        return twin

    def seek(self):
        """The node of this name that is there."""
        if not self.gone:
            return self
        nodes = self.home.core.nodes
        if self.label not in nodes:
            raise UnknownNode(self.label)
        return nodes[self.label]

    def refuse_key(self, key):
        """Raise the error of a look at a key of which there is no copy."""
        self.home.check_key(key)
        raise NoCopy(key)

    @property
    def name(self):
        return self.seek().label

    @property
    def parent(self):
        return self.seek().above

    @property
    def children(self):
        return tuple(self.seek().entries)

    def __contains__(self, x):
        node = self.seek() if self.gone else self
        return isinstance(x, str) and x in node.copies

    def __getitem__(self, at):
        node = self.seek() if self.gone else self
        if not isinstance(at, str) or at not in node.copies:
            self.refuse_key(at)
        return node.copies[at]

    def __iter__(self):
        raise TypeError("a cache is not iterated over")

    def __len__(self):
        return len(self.seek().copies)

    def __rshift__(self, other):
        node = self.seek()
        if not isinstance(other, str) or other not in node.entries:
            raise UnknownNode(other)
        return self.home[other]

    def __eq__(self, other):
        return isinstance(other, Cache) and self.label == other.label and self.home == other.home

    def allowance(self, key):
        node = self.seek() if self.gone else self
        if not isinstance(key, str) or key not in node.slacks:
            self.refuse_key(key)
        return node.slacks[key]

    def told(self, key):
        node = self.seek() if self.gone else self
        if not isinstance(key, str) or key not in node.reported:
            self.refuse_key(key)
        return node.reported[key]

    def bound(self, key):
        node = self.seek() if self.gone else self
        if not isinstance(key, str) or key not in node.copies:
            self.refuse_key(key)
        return node.reported[key] + node.slacks[key] - node.copies[key][0]

    def can_answer(self, key, need, *, floor=0):
        node = self.seek()
        self.home.check_key(key)
        self.home.check_need(key, need, floor)
        return node.serves(key, need, floor)

    def entry(self, child, key):
        """What the child confirmed and what is granted to it."""
        node = self.seek() if self.gone else self
        if not isinstance(child, str) or child not in node.entries:
            raise UnknownNode(child)
        row = node.entries[child]
        if not isinstance(key, str) or key not in row.granted:
            raise UnknownKey(key)
        return (row.confirmed[key], row.granted[key])

    def take_copy(self, key, number, value, allowance):
        self.copies[key] = (number, value)
        self.slacks[key] = allowance
        self.reported[key] = number

    def serves(self, key, need, floor):
        """Whether the node can answer this need and floor."""
        if key not in self.copies:
            return False
        number = self.copies[key][0]
        return number >= floor and self.reported[key] + self.slacks[key] - number <= need

    def sayable(self, key):
        """The greatest number that may be told to the parent (the limit)."""
        own = self.slacks[key]
        limit = self.copies[key][0]
        for entry in self.entries.values():
            room = entry.granted[key] + entry.confirmed[key] - own
            if room < limit:
                limit = room
        return limit

    def agrees(self, key, allowance):
        """Whether the entries leave room for this greater allowance."""
        reach = self.reported[key] + allowance
        for entry in self.entries.values():
            granted = entry.granted[key]
            if allowance > granted or reach - entry.confirmed[key] > granted:
                return False
        return True

    def least_grant(self, entry, key):
        """The least allowance to which that of a child can be lowered."""
        own = self.slacks[key]
        return max(1, own, self.reported[key] + own - entry.confirmed[key])
