"""One node of a net, as it is at each moment."""

from slackcache.errors import NoCopy, UnknownNode


class Cache:
    """Stays with the name: if a node of this name is there again, it shows that one."""

    def __init__(self, home, label):
        self.home = home
        self.label = label

    def seek(self):
        """The node, if it is there."""
        self.home.check_node(self.label)
        return self.home.core.nodes[self.label]

    def seek_copy(self, key):
        """The node, if it is there and has a copy of the key."""
        node = self.seek()
        self.home.check_key(key)
        if key not in node.copies:
            raise NoCopy(key)
        return node

    @property
    def name(self):
        self.seek()
        return self.label

    @property
    def parent(self):
        return self.seek().above

    @property
    def children(self):
        return tuple(self.seek().entries)

    def __contains__(self, x):
        copies = self.seek().copies
        return isinstance(x, str) and x in copies

    def __getitem__(self, at):
        return self.seek_copy(at).copies[at]

    def __iter__(self):
        raise TypeError("a cache is not iterated over")

    def __len__(self):
        return len(self.seek().copies)

    def __rshift__(self, other):
        node = self.seek()
        if not isinstance(other, str) or other not in node.entries:
            raise UnknownNode(other)
        return self.home[other]

    def __eq__(self, other):
        return isinstance(other, Cache) and self.label == other.label and self.home == other.home

    def allowance(self, key):
        return self.seek_copy(key).slacks[key]

    def told(self, key):
        return self.seek_copy(key).reported[key]

    def bound(self, key):
        return self.seek_copy(key).oldest(key)

    def can_answer(self, key, need, *, floor=0):
        node = self.seek()
        self.home.check_key(key)
        self.home.check_need(key, need, floor)
        return node.serves(key, need, floor)

    def entry(self, child, key):
        """What the child confirmed and what is granted to it."""
        entries = self.seek().entries
        if not isinstance(child, str) or child not in entries:
            raise UnknownNode(child)
        self.home.check_key(key)
        return (entries[child].confirmed[key], entries[child].granted[key])
