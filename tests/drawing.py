"""Deeds and other things that are drawn by a fixed rule."""

NAMES = ["north", "oslo", "rome", "delhi", "lima", "cairo", "quito"]

# How often each deed is drawn, for histories of several characters.
WEIGHTS = [
    {"deliver": 50, "write": 20, "read": 12, "change": 8, "join": 7, "leave": 2, "crash": 2, "recover": 3, "forget": 2},
    {"deliver": 60, "write": 20, "read": 10, "change": 10, "join": 8},
    {"deliver": 30, "write": 30, "read": 5, "change": 12, "join": 8, "leave": 3, "crash": 3, "recover": 4, "forget": 2},
    {"deliver": 40, "write": 10, "read": 30, "join": 10, "leave": 5, "crash": 4, "recover": 6, "forget": 2},
    {"deliver": 45, "write": 15, "read": 5, "change": 25, "join": 9, "leave": 1, "crash": 1, "recover": 2},
]


class Draw:
    """Numbers by a fixed rule."""

    def __init__(self, seed):
        self.state = seed * 2 + 1

    def below(self, limit):
        self.state = (self.state * 6364136223846793005 + 1442695040888963407) % 2**64
        return (self.state >> 33) % limit

    def pick(self, items):
        return items[self.below(len(items))]

    def weighted(self, weights):
        at = self.below(sum(weights.values()))
        for item, weight in weights.items():
            if at < weight:
                return item
            at -= weight


def crashed_names(net):
    """The names of the crashed nodes whose entries are kept."""
    found = []
    for name in net.names:
        for child in net[name].children:
            if child not in net and ("gone",) not in net.messages(child, name):
                found.append(child)
    return found


def draw_deed(draw, net, weights):
    """A deed that is often, but not always, possible."""
    verb = draw.weighted(weights)
    keys, names = net.key_names, list(net.names)
    if verb == "join":
        slacks = tuple((key, 1 + draw.below(6)) for key in keys)
        return (verb, draw.pick(NAMES), draw.pick(names), slacks)
    if verb == "write":
        return (verb, draw.pick(keys), draw.below(100))
    if verb == "read":
        key = draw.pick(keys)
        return (verb, draw.pick(names), key, draw.below(7), draw.below(net.number(key) + 1))
    if verb == "change":
        return (verb, draw.pick(names), draw.pick(keys), 1 + draw.below(8))
    if verb == "deliver":
        return (verb, *draw.pick(list(net.links()) or [("store", "store")]))
    if verb in ("leave", "crash"):
        return (verb, draw.pick(names))
    return (verb, draw.pick(crashed_names(net) or ["store"]))
