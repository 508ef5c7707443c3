"""Guarantee (i) over many histories, which a fixed rule draws: several sessions on one net."""

import unittest

from slackcache.errors import CacheError, Overtaken, UnknownNode
from slackcache.net import Net
from slackcache.sessions import Session, Token
from tests.drawing import WEIGHTS, Draw, draw_deed
from tests.helpers import drain, picture

HISTORIES = 150
TURNS = 120


class Account:
    """What a session must know, kept apart from it."""

    def __init__(self, case, net):
        self.case = case
        self.net = net
        self.session = Session(net)
        self.least = {key: 0 for key in net.key_names}
        # The numbers that its own writes get when they are accepted.
        self.writes = {key: [] for key in net.key_names}
        self.asked = {}
        self.taken = {}

    def floor(self, key):
        accepted = [number for number in self.writes[key] if number <= self.net.number(key)]
        return max([self.least[key], *accepted])

    def check(self):
        case, session = self.case, self.session
        floors = {key: self.floor(key) for key in self.net.key_names}
        case.assertEqual({key: session.floor(key) for key in floors}, floors)
        case.assertEqual(session.token(), Token(floors))
        case.assertEqual(session.pending, tuple(sorted(set(self.asked) - set(self.taken))))
        for key in floors:
            case.assertLessEqual(floors[key], self.net.number(key))

    def write(self, key, value):
        number = self.session.write(key, value)
        waiting = self.net.waiting(key)
        case = self.case
        case.assertEqual(self.net.history[-1], ("write", key, value))
        case.assertEqual(number is None, bool(waiting))
        self.writes[key].append(number if number is not None else self.net.number(key) + len(waiting))

    def read(self, key, need):
        place, floor = self.session.place, self.floor(key)
        if place not in self.net:
            with self.case.assertRaises(UnknownNode):
                self.session.read(key, need)
            return
        question = self.session.read(key, need)
        self.case.assertEqual(self.net.history[-1], ("read", place, key, need, floor))
        self.asked[question] = key

    def take(self, question):
        """One of "none", "taken", "again" and "overtaken"."""
        key, answer, case = self.asked[question], self.net.answer(question), self.case
        if answer is None:
            case.assertIsNone(self.session.take(question))
            return "none"
        if answer[0] < self.floor(key):
            before = picture(self.net)
            with case.assertRaises(Overtaken) as caught:
                self.session.take(question)
            case.assertEqual((caught.exception.question, picture(self.net)), (question, before))
            return "overtaken"
        case.assertEqual(self.session.take(question), answer[:2])
        # It is no older than what was taken, written or handed before.
        case.assertGreaterEqual(answer[0], self.least[key])
        self.least[key] = answer[0]
        again = question in self.taken
        self.taken[question] = True
        return "again" if again else "taken"

    def hand(self, other):
        token = other.session.token()
        self.session.hand(token)
        for key, floor in token.floors.items():
            self.least[key] = max(self.least[key], floor)


class SessionHistoriesTest(unittest.TestCase):
    def test_histories(self):
        seen = {}
        for seed in range(HISTORIES):
            draw = Draw(seed + 7000)
            net = Net([["price"], ["price", "size"]][seed % 2])
            accounts = [Account(self, net) for _ in range(3)]
            for _ in range(TURNS):
                what = self.turn(draw, net, accounts, WEIGHTS[seed % len(WEIGHTS)])
                seen[what] = seen.get(what, 0) + 1
                for account in accounts:
                    account.check()
            drain(net)
            for account in accounts:
                account.check()
        self.assertEqual(
            sorted(seen), ["again", "deed", "hand", "move", "none", "overtaken", "read", "refused", "taken", "write"]
        )
        self.assertGreater(min(seen.values()), 100, seen)

    def turn(self, draw, net, accounts, weights):
        account, key = draw.pick(accounts), draw.pick(net.key_names)
        what = draw.pick(["deed"] * 6 + ["write", "read", "read", "move", "take", "take", "hand"])
        if what == "deed":
            try:
                net.perform(draw_deed(draw, net, weights))
            except CacheError:
                return "refused"
        elif what == "write":
            if len(net.waiting(key)) < 20:
                account.write(key, draw.below(50))
        elif what == "read":
            account.read(key, draw.below(6))
        elif what == "move":
            account.session.move(draw.pick(net.names))
        elif what == "hand":
            account.hand(draw.pick(accounts))
        elif account.asked:
            return account.take(draw.pick(sorted(account.asked)))
        else:
            return "none"
        return what


if __name__ == "__main__":
    unittest.main()
