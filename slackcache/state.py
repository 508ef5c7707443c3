"""What a net holds at a moment: nodes, entries, links, waiting writes and questions."""

from slackcache.cache import Cache

STORE = "store"


class Entry:
    """What a node keeps of one child, key by key, and the messages between the two."""

    def __init__(self, granted):
        self.confirmed = {}
        self.granted = granted
        # A key stands here from the raise that is sent to the agree that arrives.
        self.raising = {}
        # A child that is not there and has not crashed has left.
        self.there = True
        self.crashed = False
        # The messages to the child and those from it.
        self.down = []
        self.up = []

    def copied(self):
        """This entry, without the messages."""
        twin = Entry(dict(self.granted))
        twin.confirmed = dict(self.confirmed)
        twin.raising = dict(self.raising)
        twin.there = self.there
        twin.crashed = self.crashed
        return twin


class State:
    """Everything about a net but its history."""

    def __init__(self, home, words):
        self.home = home
        self.words = words
        # The store's own node.
        self.top = Cache(home, STORE, None, None)
        for key in words:
            self.top.take_copy(key, 0, 0, 0)
        # In the order in which they joined or last recovered, so parents before children.
        self.nodes = {STORE: self.top}
        # By links (sender, receiver), the very lists of messages that the entries hold.
        self.queues = {}
        # The values of the writes that wait.
        self.kept = {key: [] for key in words}
        self.accepted = []
        # How many questions were asked.
        self.questions = 0
        # The nodes to which an answer must go back, from the asked node upwards, for
        # each question that is neither answered nor lost.
        self.trails = {}
        self.answered = {}
        # By questions, from the moment when a node gives the answer.
        self.receipts = {}

    def copied(self, home):
        """This state as that of another net."""
        twin = State(home, self.words)
        twin.top = self.top.copied(home, None)
        found = {STORE: twin.top}
        for name, node in self.nodes.items():
            if node.row is not None:
                found[name] = node.copied(home, found[node.above].entries[name])
        twin.nodes = found
        twin.queues = {link: list(self.queues[link]) for link in self.queues}
        for name, node in found.items():
            for child, row in node.entries.items():
                row.down = twin.queues[(name, child)]
                row.up = twin.queues[(child, name)]
        twin.kept = {key: list(self.kept[key]) for key in self.kept}
        twin.accepted = list(self.accepted)
        twin.questions = self.questions
        twin.trails = {question: list(self.trails[question]) for question in self.trails}
        twin.answered = dict(self.answered)
        twin.receipts = dict(self.receipts)
        return twin

    def lay_links(self, name, child, row):
        self.queues[(name, child)] = row.down
        self.queues[(child, name)] = row.up

    def cut_links(self, name, child):
        del self.queues[(name, child)]
        del self.queues[(child, name)]

    def is_taken(self, name):
        """Whether a node or an entry has this name."""
        if name in self.nodes:
            return True
        for node in self.nodes.values():
            if name in node.entries:
                return True
        return False

    def keeper(self, name):
        """The node that keeps the entries of a crashed child, or None."""
        if name in self.nodes:
            return None
        for node in self.nodes.values():
            if name in node.entries and node.entries[name].crashed:
                return node
        return None

    def branch(self, name):
        """The names of a node and of all nodes below it that are there."""
        found = [name]
        for at, node in self.nodes.items():
            if node.above in found:
                found.append(at)
        return found

    def rows_from(self, node, key):
        """What the nodes from one with a copy up to the store show of a key, as in a receipt."""
        rows = ()
        while node.row is not None:
            row = node.row
            rows = rows + ((node.label, node.reported[key], node.slacks[key], row.confirmed[key], row.granted[key]),)
            node = self.nodes[node.above]
        return rows + ((STORE, node.reported[key]),)
