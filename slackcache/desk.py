"""A desk: nets by name, with the users of their deeds, undo and redo, forks and trials."""

from slackcache.errors import (
    InvalidName,
    InvalidOperand,
    InvalidUser,
    LimitExceeded,
    NetTaken,
    NothingToUndo,
    NotYours,
    UnknownNet,
)
from slackcache.net import Net
from slackcache.scripts import Script
from slackcache.words import is_word

# After how many deeds a copy of a net is kept, for the next undo.
SPAN = 64


class Shelf:
    """A net of a desk."""

    def __init__(self, net):
        self.net = net
        # By deeds, their users.
        self.owners = []
        # The pairs (deed, user) that were taken back, the one that is done again next as the last.
        self.undone = []
        # Copies of the net as it was earlier, in the order of their deeds.
        self.saved = []

    def note(self, user):
        """Note the user of the deeds that were done on the net."""
        more = len(self.net.done) - len(self.owners)
        if more > 0:
            self.owners.extend([user for turn in range(more)])
            self.undone.clear()

    def forked(self):
        twin = Shelf(self.net.copy())
        twin.owners = list(self.owners)
        return twin

    def take_back(self):
        """Replace the net by one without the last deed."""
        history = self.net.done
        while self.saved and len(self.saved[-1].done) >= len(history):
            self.saved.pop()
        past = self.saved[-1].copy() if self.saved else Net(self.net.key_names)
        latest = len(past.done)
        rest = history[latest:-1]
        for deed in rest:
            past.perform(deed)
            if len(past.done) - latest == SPAN:
                self.saved.append(past.copy())
                latest += SPAN
        self.undone.append((history[-1], self.owners.pop()))
        self.net = past


class Desk:
    MOST = 8

    def __init__(self):
        self.shelves = {}

    @property
    def names(self):
        return sorted(list(self.shelves))

    def __contains__(self, x):
        return isinstance(x, str) and x in self.shelves

    def __len__(self):
        return len(self.shelves)

    def shelf_of(self, name):
        if name not in self:
            raise UnknownNet(name)
        return self.shelves[name]

    def net_of(self, name):
        """The net itself, for looks that change nothing."""
        return self.shelf_of(name).net

    def shelf_for(self, user, name):
        if not is_word(user):
            raise InvalidUser(user)
        return self.shelf_of(name)

    def check_new(self, name):
        """Check that one more net can have this name."""
        if not is_word(name):
            raise InvalidName(name)
        if name in self:
            raise NetTaken(name)
        if len(self) >= Desk.MOST:
            raise LimitExceeded(Desk.MOST)

    def create(self, user, name, keys):
        if not is_word(user):
            raise InvalidUser(user)
        self.check_new(name)
        self.shelves[name] = Shelf(Net(keys))

    def fork(self, user, name, new):
        shelf = self.shelf_for(user, name)
        self.check_new(new)
        self.shelves[new] = shelf.forked()

    def drop(self, user, name):
        self.shelf_for(user, name)
        del self.shelves[name]

    def do(self, user, name, deed):
        """Do a deed as it is noted, and return its result."""
        shelf = self.shelf_for(user, name)
        result = shelf.net.perform(deed)
        shelf.note(user)
        return result

    def run(self, user, name, script):
        shelf = self.shelf_for(user, name)
        if not isinstance(script, Script):
            raise InvalidOperand(script)
        report = script.run(shelf.net)
        shelf.note(user)
        return report

    def undo(self, user, name):
        """Take back the last deed of a net."""
        shelf = self.shelf_for(user, name)
        if not shelf.owners:
            raise NothingToUndo(name)
        if shelf.owners[-1] != user:
            raise NotYours(shelf.owners[-1])
        shelf.take_back()

    def redo(self, user, name):
        """Do the deed again that was taken back last, and return its result."""
        shelf = self.shelf_for(user, name)
        if not shelf.undone:
            raise NothingToUndo(name)
        deed, owner = shelf.undone[-1]
        if owner != user:
            raise NotYours(owner)
        result = shelf.net.perform(deed)
        shelf.undone.pop()
        shelf.owners.append(owner)
        return result

    def attempt(self, user, name, visit):
        """Let deeds be done on a copy, and do them on the net if the visit returns a true object."""
        shelf = self.shelf_for(user, name)
        twin = shelf.net.copy()
        found = visit(twin)
        if found:
            for deed in twin.history[len(shelf.owners):]:
                shelf.net.perform(deed)
            shelf.note(user)
        return found

    def twin(self, name):
        return self.net_of(name).copy()

    def users(self, name):
        """The users of the deeds of a net, in order."""
        yield from self.shelf_of(name).owners

    def first_difference(self, one, other):
        """The index of the first deed in which two nets differ, or None if they are equal."""
        net, twin = self.net_of(one), self.net_of(other)
        if net.key_names != twin.key_names:
            return 0
        for index, (deed, fellow) in enumerate(zip(net.done, twin.done)):
            if deed != fellow:
                return index
        return None if len(net.done) == len(twin.done) else min(len(net.done), len(twin.done))
