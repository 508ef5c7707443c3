"""Cuts: whether numbers of several keys belong to one moment of an order, and whom to ask if not."""

from slackcache.errors import InvalidCut, InvalidKeys, InvalidMoment, InvalidOperand, InvalidOrder, NoCopy
from slackcache.words import is_integer_within, is_word

LONGEST_ORDER = 5000


def is_order(obj):
    if not isinstance(obj, (list, tuple)) or len(obj) > LONGEST_ORDER:
        return False
    return all([is_word(item) for item in obj])


def are_numbers(obj, order):
    """Whether an object is a dict that gives numbers of an order to one or more words."""
    if not isinstance(obj, dict) or not obj:
        return False
    totals = {}
    for key in order:
        totals[key] = totals.get(key, 0) + 1
    for key in obj:
        if not is_word(key) or not is_integer_within(obj[key], 0, totals.get(key, 0)):
            return False
    return True


def distances(order, numbers):
    """The list of the distances from each moment."""
    # How much greater than at the moment the numbers are, and how many of them are so far away.
    ahead = dict(numbers)
    crowds = [0 for place in range(len(order) + 1)]
    for key in numbers:
        crowds[numbers[key]] = crowds[numbers[key]] + 1
    worst = max(list(numbers.values()))
    found = [worst]
    for key in order:
        if key in ahead:
            before = abs(ahead[key])
            ahead[key] = ahead[key] - 1
            now = abs(ahead[key])
            crowds[before] = crowds[before] - 1
            crowds[now] = crowds[now] + 1
            # One number moved by 1, so the greatest distance moves by at most 1.
            if now > worst:
                worst = now
            elif crowds[worst] == 0:
                worst = now
        found.append(worst)
    return found


def outer_moments(gaps, least):
    """The first and the last moment with this distance."""
    found = [at for at, gap in enumerate(gaps) if gap == least]
    return (found[0], found[-1])


class Cut:
    def __init__(self, order, numbers):
        if not is_order(order):
            raise InvalidOrder(order)
        if not are_numbers(numbers, order):
            raise InvalidCut(numbers)
        self.steps = tuple(order)
        self.chosen = dict(numbers)
        # The distance from each moment, and the least of them.
        self.gaps = distances(self.steps, self.chosen)
        self.least = min(self.gaps)
        first, last = outer_moments(self.gaps, self.least)
        self.closest = first
        # The moments at which one key has its number follow on each other, so those of all do.
        self.shown = (first, last) if self.least == 0 else None

    @property
    def order(self):
        return self.steps

    @property
    def numbers(self):
        return dict(self.chosen)

    @property
    def spread(self):
        return self.least

    @property
    def nearest(self):
        return self.closest

    @property
    def seen(self):
        return self.shown

    def distance(self, moment):
        if not is_integer_within(moment, 0, len(self.steps)):
            raise InvalidMoment(moment)
        return self.gaps[moment]

    def check_operand(self, other):
        if not isinstance(other, Cut) or self.steps != other.steps:
            raise InvalidOperand(other)
        if sorted(list(self.chosen)) != sorted(list(other.chosen)):
            raise InvalidOperand(other)

    def __or__(self, other):
        self.check_operand(other)
        return Cut(self.steps, {key: max(self.chosen[key], other.chosen[key]) for key in self.chosen})

    def __and__(self, other):
        self.check_operand(other)
        return Cut(self.steps, {key: min(self.chosen[key], other.chosen[key]) for key in self.chosen})

    def __eq__(self, other):
        return isinstance(other, Cut) and self.steps == other.steps and self.chosen == other.chosen

    def __len__(self):
        return len(self.chosen)


def near_moments(cut, keys, slack):
    """Two dicts: the first and the last moment at which each key differs by at most so much."""
    counts = {key: 0 for key in keys}
    firsts = {key: 0 for key in keys}
    lasts = {key: len(cut.steps) for key in keys}
    for at, key in enumerate(cut.steps):
        if key in counts:
            counts[key] += 1
            if counts[key] == cut.chosen[key] - slack:
                firsts[key] = at + 1
            if counts[key] == cut.chosen[key] + slack + 1:
                lasts[key] = at
    return (firsts, lasts)


def find_bar(cut):
    """Two keys that bar a spread that is less by 1, or None if the spread is 0."""
    if cut.spread == 0:
        return None
    keys = list(cut.chosen)
    firsts, lasts = near_moments(cut, keys, cut.spread - 1)
    # The moments of each key follow on each other. If they have none in common, the one
    # that begins last begins behind the one that ends first. No other begins or ends there.
    late = max(keys, key=lambda key: firsts[key])
    early = min(keys, key=lambda word: lasts[word])
    return (early, late)


def check_bar(cut, obj):
    """Whether any object is such a tuple as find_bar returns."""
    if cut.spread == 0:
        return obj is None
    if not isinstance(obj, tuple) or len(obj) != 2:
        return False
    for key in obj:
        if not isinstance(key, str) or key not in cut.chosen:
            return False
    firsts, lasts = near_moments(cut, obj, cut.spread - 1)
    return firsts[obj[0]] > lasts[obj[1]] or firsts[obj[1]] > lasts[obj[0]]


def are_group(obj, known):
    """Whether an object is a list or tuple of one or more different known keys."""
    if not isinstance(obj, (list, tuple)) or not obj:
        return False
    for key in obj:
        if not isinstance(key, str) or key not in known:
            return False
    return len(set(obj)) == len(obj)


def find_group(net, name, keys):
    """The node of this name, which has copies of all these keys."""
    node = net[name]
    if not are_group(keys, net.key_names):
        raise InvalidKeys(keys)
    for key in keys:
        if key not in node:
            raise NoCopy(key)
    return node


def cut_at(net, name, keys):
    node = find_group(net, name, keys)
    return Cut(net.order, {key: node[key][0] for key in keys})


def group_bound(net, name, keys):
    node = find_group(net, name, keys)
    return sum([node.bound(key) for key in keys])


def keys_to_ask(net, name, keys, need):
    """As few keys as possible, such that the bounds of the others add up to at most the need."""
    node = find_group(net, name, keys)
    net.check_need(keys[0], need, 0)
    bounds = {key: node.bound(key) for key in keys}
    left = sum(list(bounds.values()))
    asked = {}
    # Among equal bounds the order of the argument stays.
    for key in sorted(keys, key=lambda word: bounds[word], reverse=True):
        if left > need:
            left -= bounds[key]
            asked[key] = True
    return tuple([key for key in keys if key in asked])
