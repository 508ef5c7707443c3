"""The explorer: which nets can be reached by so many deeds, and the shortest way to them."""

from slackcache.errors import CacheError, InvalidMost, LimitExceeded
from slackcache.flow import STORE
from slackcache.net import MOST_WAITING
from slackcache.words import is_integer_within

MOST_DEEDS = 20
MOST_NETS = 3000


def steps_of(net):
    """The own steps of the explorer, without writes that would raise an error."""
    writes = [("write", key, 0) for key in net.key_names if len(net.waiting(key)) < MOST_WAITING]
    return writes + [("deliver", sender, receiver) for sender, receiver in net.links()]


def mark_of(net, accepted, answered):
    """What tells nets apart, but for so many writes and answers, which they have in common."""
    parts = [net.labels, tuple(net.kept.values()), tuple(net.accepted[accepted:]), net.questions]
    for node in net.nodes.values():
        parts.append(tuple(node.cells.values()))
        for child, row in node.entries.items():
            raising = tuple(sorted(row.raising)) if len(row.raising) > 1 else row.raising
            parts.append((child, row.crashed, raising, tuple(row.cells.values()), tuple(row.down), tuple(row.up)))
    if net.questions > 0:
        # Questions may be answered in any order.
        parts.append(tuple(sorted(list(net.trails.items()))))
        parts.append(tuple(sorted(list(net.answered.items())[answered:])))
    return tuple(parts)


class Place:
    """A net that was reached, with the first way to it."""

    def __init__(self, net, before, step):
        self.net = net
        # The place before and the step from there, None for the first place.
        self.before = before
        self.step = step
        # By the steps that were taken from here, the places to which they lead.
        self.ways = {}
        # A copy of the net that a step has left as it was, by raising an error.
        self.spare = None

    def twin(self):
        """A copy of the net for the next step."""
        found = self.net.copy() if self.spare is None else self.spare
        self.spare = None
        return found

    def finish(self):
        """Keep nothing that only the next steps from here would need."""
        self.net = None
        self.spare = None

    def path(self):
        place = self
        found = []
        while place.before is not None:
            found.append(place.step)
            place = place.before
        return tuple(found[::-1])


def are_apart(one, other):
    """Whether two own steps of the explorer, done in either order, lead to the same net."""
    if one[0] == "write":
        return other[0] == "deliver" and other[2] != STORE
    return one[2] != other[2] if other[0] == "deliver" else one[2] != STORE


def known_place(place, step):
    """The place to which an own step leads, if it was reached in the other order of the last two steps."""
    before = place.before
    if before is None or step not in before.ways or not are_apart(step, place.step):
        return None
    return before.ways[step].ways.get(place.step)


class Search:
    """Which places were reached so far."""

    def __init__(self, net, steps):
        self.lister = steps
        # What the nets have in common needs no look.
        self.accepted = len(net.accepted)
        self.answered = len(net.answered)
        self.first = Place(net.copy(), None, None)
        self.places = {self.mark(net): self.first}

    def mark(self, net):
        return mark_of(net, self.accepted, self.answered)

    def listed(self, net):
        lister = self.lister
        return steps_of(net) if lister is None else lister(net)

    def take(self, place, step):
        """The place to which a step leads if it is new, otherwise None."""
        if self.lister is None:
            known = known_place(place, step)
            if known is not None:
                place.ways[step] = known
                return None
        twin = place.twin()
        try:
            twin.perform(step)
        except CacheError:
            place.spare = twin
            return None
        mark = self.mark(twin)
        new = None
        if mark not in self.places:
            if len(self.places) >= MOST_NETS:
                raise LimitExceeded(MOST_NETS)
            new = Place(twin, place, step)
            self.places[mark] = new
        if self.lister is None:
            place.ways[step] = self.places[mark]
        return new


def explore(net, most, steps):
    """The places after at most so many deeds, each different net once."""
    search = Search(net, steps)
    frontier = [search.first]
    yield search.first
    for depth in range(most):
        following = []
        for place in frontier:
            listed = search.listed(place.net)
            for step in listed:
                new = search.take(place, step)
                if new is not None:
                    following.append(new)
                    yield new
            place.finish()
        frontier = following


def shortest(net, goal, most, *, steps=None):
    if not is_integer_within(most, 0, MOST_DEEDS):
        raise InvalidMost(most)
    for place in explore(net, most, steps):
        if goal(place.net):
            return place.path()
    return None


def greatest_age(net, name, key, most, *, steps=None):
    """The greatest age of a copy, and the first shortest way to it."""
    net.age(name, key)
    if not is_integer_within(most, 0, MOST_DEEDS):
        raise InvalidMost(most)
    greatest = -1
    best = None
    for place in explore(net, most, steps):
        found = place.net
        if name in found and key in found[name] and found.age(name, key) > greatest:
            greatest = found.age(name, key)
            best = place
    return (greatest, best.path())
