"""Conditions on a net, which are written in words."""

from slackcache.errors import InvalidCondition, InvalidOperand
from slackcache.words import is_number_text, is_word

LONGEST_CONDITION = 1000
DEEPEST_BRACKETS = 20

# How many words follow the name of a term.
TERMS = {
    "number": 1,
    "waiting": 1,
    "nodes": 0,
    "sent": 2,
    "copy": 2,
    "age": 2,
    "bound": 2,
    "told": 2,
    "allowance": 2,
}
SIGNS = ("<", "<=", "=", "!=", ">=", ">")

# How much a condition binds.
BINDS_OR = 0
BINDS_AND = 1
BINDS_NOT = 2


def value_at(net, term):
    """The value of a term that names a node and a key, None if it has none."""
    name, key = term[1:]
    if name not in net or key not in net[name]:
        return None
    node = net[name]
    match term[0]:
        case "copy":
            return node[key][0]
        case "age":
            return net.age(name, key)
        case "bound":
            return node.bound(key)
        case "told":
            return node.told(key)
        case _:
            return node.allowance(key)


def value_of(net, term):
    """The value of a term, None if it has none."""
    match term[0]:
        case "integer":
            return term[1]
        case "nodes":
            return len(net)
        case "sent":
            return len(net.messages(term[1], term[2]))
        case "number":
            return net.number(term[1]) if term[1] in net.key_names else None
        case "waiting":
            return len(net.waiting(term[1])) if term[1] in net.key_names else None
        case _:
            return value_at(net, term)


def sum_of(net, terms):
    """The sum of pairs (factor, term), None if a term has no value."""
    total = 0
    for factor, term in terms:
        value = value_of(net, term)
        if value is None:
            return None
        total += factor * value
    return total


def compares(one, sign, other):
    match sign:
        case "<":
            return one < other
        case "<=":
            return one <= other
        case "=":
            return one == other
        case "!=":
            return one != other
        case ">=":
            return one >= other
        case _:
            return one > other


def holds(net, part):
    """Whether a comparison or a part ("there", name) holds."""
    if part[0] == "there":
        return part[1] in net
    sign, left, right = part
    one = sum_of(net, left)
    other = sum_of(net, right)
    return one is not None and other is not None and compares(one, sign, other)


def bracketed(condition, least):
    """The text of a condition as a part of another one, in brackets if it binds less than so much."""
    return f"( {condition.written} )" if condition.binds < least else condition.written


class Condition:
    """The parts stand in the order in which they are worked off: behind what they join."""

    def __init__(self, parts, written, binds):
        self.parts = parts
        self.written = written
        self.binds = binds

    @property
    def text(self):
        return self.written

    def __call__(self, net):
        found = []
        for part in self.parts:
            match part[0]:
                case "not":
                    found.append(not found.pop())
                case "and":
                    last = found.pop()
                    found.append(found.pop() and last)
                case "or":
                    last = found.pop()
                    found.append(found.pop() or last)
                case _:
                    found.append(holds(net, part))
        return found[0]

    def __and__(self, other):
        if not isinstance(other, Condition):
            raise InvalidOperand(other)
        # A condition that is joined behind keeps its own joins together.
        written = f"{bracketed(self, BINDS_AND)} and {bracketed(other, BINDS_NOT)}"
        return Condition(self.parts + other.parts + (("and",),), written, BINDS_AND)

    def __or__(self, other):
        if not isinstance(other, Condition):
            raise InvalidOperand(other)
        written = f"{self.written} or {bracketed(other, BINDS_AND)}"
        return Condition(self.parts + other.parts + (("or",),), written, BINDS_OR)

    def __invert__(self):
        return Condition(self.parts + (("not",),), f"not {bracketed(self, BINDS_NOT)}", BINDS_NOT)

    def __eq__(self, other):
        return isinstance(other, Condition) and self.written == other.written


class Reader:
    """The words of a condition, from the one that is read next."""

    def __init__(self, text):
        self.given = text
        self.words = text.split(" ")
        self.at = 0
        self.depth = 0

    def peek(self):
        """The next word, an empty text at the end."""
        return self.words[self.at] if self.at < len(self.words) else ""

    def take(self, word):
        """Whether the next word is this one, which is read then."""
        if self.peek() != word:
            return False
        self.at += 1
        return True

    def take_word(self):
        word = self.peek()
        if not is_word(word):
            raise InvalidCondition(self.given)
        self.at += 1
        return word

    def read_term(self):
        word = self.peek()
        if is_number_text(word):
            self.at += 1
            return ("integer", int(word))
        if word not in TERMS:
            raise InvalidCondition(self.given)
        self.at += 1
        return tuple([word] + [self.take_word() for turn in range(TERMS[word])])

    def read_sum(self):
        """The pairs (factor, term) of a sum."""
        terms = [(1, self.read_term())]
        while self.peek() in ("+", "-"):
            factor = 1 if self.peek() == "+" else -1
            self.at += 1
            terms.append((factor, self.read_term()))
        return tuple(terms)

    def read_comparison(self):
        start = self.at
        left = self.read_sum()
        sign = self.peek()
        if sign not in SIGNS:
            raise InvalidCondition(self.given)
        self.at += 1
        part = (sign, left, self.read_sum())
        return Condition((part,), " ".join(self.words[start:self.at]), BINDS_NOT)

    def read_brackets(self):
        self.depth += 1
        if self.depth > DEEPEST_BRACKETS:
            raise InvalidCondition(self.given)
        found = self.read_any()
        if not self.take(")"):
            raise InvalidCondition(self.given)
        self.depth -= 1
        return found

    def read_one(self):
        """What "and" and "or" join."""
        turns = 0
        while self.take("not"):
            turns += 1
        if self.take("("):
            found = self.read_brackets()
        elif self.take("there"):
            name = self.take_word()
            found = Condition((("there", name),), f"there {name}", BINDS_NOT)
        else:
            found = self.read_comparison()
        for turn in range(turns):
            found = ~found
        return found

    def read_all(self):
        found = self.read_one()
        while self.take("and"):
            found = found & self.read_one()
        return found

    def read_any(self):
        found = self.read_all()
        while self.take("or"):
            found = found | self.read_all()
        return found


def parse_condition(text):
    if not isinstance(text, str) or len(text) > LONGEST_CONDITION:
        raise InvalidCondition(text)
    reader = Reader(text)
    found = reader.read_any()
    if reader.at < len(reader.words):
        raise InvalidCondition(text)
    return found
