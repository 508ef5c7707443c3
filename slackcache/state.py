"""What a net holds at a moment: nodes, entries, links, waiting writes and questions."""

STORE = "store"


class Entry:
    """What a node keeps of one child, key by key."""

    def __init__(self, confirmed, granted):
        self.confirmed = dict(confirmed)
        self.granted = dict(granted)
        # A key stands here from the raise that is sent to the agree that arrives.
        self.raising = {}
        self.crashed = False

    def copied(self):
        twin = Entry(self.confirmed, self.granted)
        twin.raising = dict(self.raising)
        twin.crashed = self.crashed
        return twin


class Node:
    """A node that is there; its dicts lack a key as long as it has no copy of it."""

    def __init__(self, above):
        self.above = above
        self.copies = {}
        self.slacks = {}
        self.reported = {}
        # The allowances that it was asked to agree to and has not agreed to.
        self.asked = {}
        # By children, in the order in which they joined.
        self.entries = {}

    def copied(self):
        twin = Node(self.above)
        twin.copies = dict(self.copies)
        twin.slacks = dict(self.slacks)
        twin.reported = dict(self.reported)
        twin.asked = dict(self.asked)
        twin.entries = {child: self.entries[child].copied() for child in self.entries}
        return twin

    def take_copy(self, key, number, value, allowance):
        self.copies[key] = (number, value)
        self.slacks[key] = allowance
        self.reported[key] = number

    def version(self, key):
        """The number of the copy."""
        return self.copies[key][0]

    def oldest(self, key):
        """The bound of the copy."""
        return self.reported[key] + self.slacks[key] - self.version(key)

    def serves(self, key, need, floor):
        """Whether the node can answer this need and floor."""
        return key in self.copies and self.oldest(key) <= need and self.version(key) >= floor

    def sayable(self, key):
        """The greatest number that may be told to the parent (the limit)."""
        own = self.slacks[key]
        rooms = [entry.granted[key] + entry.confirmed[key] - own for entry in self.entries.values()]
        return min([self.version(key)] + rooms)

    def agrees(self, key, allowance):
        """Whether the entries leave room for this greater allowance."""
        reach = self.reported[key] + allowance
        return all([
            allowance <= entry.granted[key] and reach - entry.confirmed[key] <= entry.granted[key]
            for entry in self.entries.values()
        ])

    def least_grant(self, child, key):
        """The least allowance to which that of a child can be lowered."""
        own = self.slacks[key]
        return max(1, own, self.reported[key] + own - self.entries[child].confirmed[key])


class State:
    """Everything about a net but its history."""

    def __init__(self, words):
        self.words = words
        store = Node(None)
        for key in words:
            store.take_copy(key, 0, 0, 0)
        # In the order in which they joined or last recovered.
        self.nodes = {STORE: store}
        # Messages by links (sender, receiver); links without messages are left out.
        self.queues = {}
        # The values of the writes that wait.
        self.kept = {key: [] for key in words}
        self.accepted = []
        # How many questions were asked.
        self.questions = 0
        # The nodes to which an answer must go back, from the asked node upwards, for
        # each question that is neither answered nor lost.
        self.trails = {}
        self.answered = {}

    def copied(self):
        twin = State(self.words)
        twin.nodes = {name: self.nodes[name].copied() for name in self.nodes}
        twin.queues = {link: list(self.queues[link]) for link in self.queues}
        twin.kept = {key: list(self.kept[key]) for key in self.kept}
        twin.accepted = list(self.accepted)
        twin.questions = self.questions
        twin.trails = {question: list(self.trails[question]) for question in self.trails}
        twin.answered = dict(self.answered)
        return twin

    def store(self):
        return self.nodes[STORE]

    def is_taken(self, name):
        """Whether a node or an entry has this name."""
        return name in self.nodes or any([name in node.entries for node in self.nodes.values()])

    def keeper(self, name):
        """The name of the node that keeps the entries of a crashed child, or None."""
        for at, node in self.nodes.items():
            if name in node.entries and node.entries[name].crashed:
                return at
        return None

    def branch(self, name):
        """The names of a node and of all nodes below it that are there."""
        found = [name]
        for at, node in self.nodes.items():
            if node.above in found:
                found.append(at)
        return found
