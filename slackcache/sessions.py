"""Sessions, which never go back behind what they have seen, and the tokens that they hand on."""

from slackcache.errors import InvalidOperand, InvalidToken, Overtaken, UnknownQuestion
from slackcache.flow import STORE
from slackcache.words import is_integer, is_word


def are_floors(obj):
    """Whether an object is a dict from words to integers from 0."""
    if not isinstance(obj, dict):
        return False
    for key in obj:
        if not is_word(key) or not is_integer(obj[key]) or obj[key] < 0:
            return False
    return True


def floor_in(floors, key):
    return floors[key] if key in floors else 0


class Token:
    def __init__(self, floors):
        if not are_floors(floors):
            raise InvalidToken(floors)
        self.held = {key: floors[key] for key in floors if floors[key] > 0}

    @property
    def floors(self):
        return dict(self.held)

    def __getitem__(self, at):
        return floor_in(self.held, at) if isinstance(at, str) else 0

    def __iter__(self):
        raise TypeError("a token is not iterated over")

    def __or__(self, other):
        if not isinstance(other, Token):
            raise InvalidOperand(other)
        words = list(self.held) + list(other.held)
        return Token({key: max(floor_in(self.held, key), floor_in(other.held, key)) for key in words})

    def __eq__(self, other):
        return isinstance(other, Token) and self.held == other.held

    def __bool__(self):
        return bool(self.held)


class Session:
    def __init__(self, net):
        self.net = net
        self.site = STORE
        # The floors by what was taken and handed, and by the own writes that were accepted at once.
        self.reached = {key: 0 for key in net.key_names}
        # The numbers of own writes that had to wait.
        self.awaited = {key: [] for key in net.key_names}
        # The keys of its questions, in ascending order, and which of them were taken.
        self.asked = {}
        self.took = {}

    @property
    def place(self):
        return self.site

    @property
    def pending(self):
        return tuple([question for question in self.asked if question not in self.took])

    def move(self, name):
        self.site = self.net[name].name

    def write(self, key, value):
        number = self.net.write(key, value)
        if number is not None:
            self.reached[key] = number
            # A write is accepted at once only if none waits.
            self.awaited[key] = []
        else:
            # Writes are accepted in their order, so the number is known by now.
            last = self.net.number(key) + len(self.net.waiting(key))
            self.awaited[key].append(last)
        return number

    def read(self, key, need):
        node = self.net[self.site]
        question = self.net.read(node.name, key, need, floor=self.floor(key))
        self.asked[question] = key
        return question

    def take(self, question):
        """The tuple (number, value), or None if the answer is not there (yet)."""
        if not is_integer(question) or question not in self.asked:
            raise UnknownQuestion(question)
        answer = self.net.answer(question)
        if answer is None:
            return None
        key = self.asked[question]
        number, value, giver = answer
        if number < self.floor(key):
            raise Overtaken(question)
        self.reached[key] = number
        self.took[question] = True
        return (number, value)

    def floor(self, key):
        number = self.net.number(key)
        return max([self.reached[key]] + [at for at in self.awaited[key] if at <= number])

    def token(self):
        return Token({key: self.floor(key) for key in self.net.key_names})

    def hand(self, token):
        if not isinstance(token, Token):
            raise InvalidToken(token)
        for key in token.held:
            if key not in self.net.key_names or token.held[key] > self.net.number(key):
                raise InvalidToken(token)
        for key in token.held:
            self.reached[key] = max(self.reached[key], token.held[key])
