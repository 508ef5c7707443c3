"""Point 3: guarantees (a) to (g) after every deed of many histories, which a fixed rule draws."""

import unittest

from slackcache.errors import CacheError
from slackcache.net import Net
from tests.drawing import WEIGHTS, Draw, crashed_names, draw_deed
from tests.helpers import answers, drain, inner, picture

HISTORIES = 300
DEEDS = 140


def changes_under_way(net, raising):
    kinds = [message[0] for link in net.links() for message in net.messages(*link)]
    return bool(raising) or any(kind in ("lower", "raise", "agree") for kind in kinds)


class Watch:
    """Does deeds on a net and checks the guarantees, with an account of its own."""

    def __init__(self, case, net):
        self.case = case
        self.net = net
        # How often a node of a name came to be there, and the way of each question.
        self.born = {"store": 0}
        self.ways = {}
        self.asked = {}
        self.raising = {}
        self.numbers = {}
        self.had = {}

    def do(self, deed):
        """Whether the deed was done."""
        net, case = self.net, self.case
        before = picture(net)
        could = self.could_answer(deed)
        room = {key: self.room(key) for key in net.key_names}
        parents = {name: net[name].parent for name in net.names}
        granted = self.grant_of(deed)
        try:
            result = net.perform(deed)
        except CacheError:
            case.assertEqual(picture(net), before)
            return False
        case.assertEqual(net.history[-1], deed)
        if deed[0] == "write":
            case.assertEqual(result is not None, room[deed[1]])
        if deed[0] == "read":
            self.check_read(deed, result, could)
        if deed[0] == "deliver":
            self.check_delivery(deed, result, could, before)
        self.account(deed, result, parents, granted)
        self.check_ages()
        self.check_entries()
        self.check_waiting()
        self.check_numbers(deed)
        return True

    def grant_of(self, deed):
        if deed[0] == "change" and deed[1] in self.net and deed[1] != "store":
            parent = self.net[deed[1]].parent
            return self.net[parent].entry(deed[1], deed[2])[1]
        return None

    def room(self, key):
        store = self.net["store"]
        entries = [store.entry(child, key) for child in store.children]
        return all(self.net.number(key) + 1 - confirmed <= granted for confirmed, granted in entries)

    def could_answer(self, deed):
        """What the node that reads or gets a question says before the deed."""
        net = self.net
        if deed[0] == "read" and deed[1] in net:
            return self.able(deed[1], *deed[2:])
        if deed[0] == "deliver":
            sent = net.messages(deed[1], deed[2])
            if sent and sent[0][0] == "question":
                return self.able(deed[2], *sent[0][2:])
        return None

    def able(self, name, key, need, floor):
        cache = self.net[name]
        able = key in cache and cache.bound(key) <= need and cache[key][0] >= floor
        self.case.assertEqual(cache.can_answer(key, need, floor=floor), able)
        return able

    def check_answer(self, question, number, value, name, giver):
        """(a) and (c), at the moment when the answer is given."""
        key, need, floor = self.asked[question]
        self.case.assertEqual(name, giver)
        self.case.assertEqual((number, value), self.net[giver][key])
        self.case.assertLessEqual(self.net.number(key) - number, need)
        self.case.assertGreaterEqual(number, floor)

    def check_read(self, deed, question, could):
        net, name = self.net, deed[1]
        self.asked[question] = deed[2:]
        self.case.assertEqual(question, len(self.asked))
        if could:
            self.check_answer(question, *net.answer(question), name)
        else:
            self.case.assertIsNone(net.answer(question))
            sent = net.messages(name, net[name].parent)
            self.case.assertEqual(sent[-1], ("question", question, *deed[2:]))
            self.ways[question] = [(name, self.born[name])]

    def is_whole(self, way):
        """Whether all nodes of a way are still the ones that they were."""
        return all(name in self.net and self.born[name] == born for name, born in way)

    def check_delivery(self, deed, message, could, before):
        net, (_, sender, receiver) = self.net, deed
        was = dict(before[2])
        if message[0] == "question":
            question = message[1]
            way = self.ways[question]
            down = net.messages(receiver, sender)[len(was.get((receiver, sender), [])):]
            parent = net[receiver].parent
            up = net.messages(receiver, parent)[len(was.get((receiver, parent), [])):]
            if not could:
                self.case.assertEqual((down, up), ([], [message]))
                way.append((receiver, self.born[receiver]))
            elif self.is_whole(way):
                self.case.assertEqual((len(down), up, down[0][:2]), (1, [], ("answer", question)))
                self.check_answer(*down[0][1:], receiver)
            else:
                self.case.assertEqual((down, up), ([], []))
        if message[0] == "answer":
            self.check_passing(message, receiver, was)

    def check_passing(self, message, receiver, was):
        net, question = self.net, message[1]
        way = self.ways[question]
        if not self.is_whole(way):
            sent = [net.messages(receiver, child) for child in net[receiver].children]
            old = [was.get((receiver, child), []) for child in net[receiver].children]
            self.case.assertEqual((sent, net.answer(question)), (old, None))
            return
        self.case.assertEqual(way.pop()[0], receiver)
        if way:
            self.case.assertEqual(net.messages(receiver, way[-1][0])[-1], message)
            self.case.assertIsNone(net.answer(question))
        else:
            self.case.assertEqual(net.answer(question), message[2:])

    def account(self, deed, result, parents, granted):
        net = self.net
        if deed[0] in ("join", "recover"):
            self.born[deed[1]] = self.born.get(deed[1], 0) + 1
            self.end_raises(deed[1])
        if deed[0] == "change" and deed[3] > granted:
            self.raising[deed[1], deed[2]] = True
        if deed[0] == "deliver" and result[0] == "agree":
            del self.raising[deed[1], result[1]]
        if deed[0] == "deliver" and result[0] == "gone" or deed[0] == "forget":
            self.end_raises(deed[1])
        for name in parents:
            if name not in net and parents[name] not in net:
                self.end_raises(name)

    def end_raises(self, name):
        for row in list(self.raising):
            if row[0] == name:
                del self.raising[row]

    def check_ages(self):
        """(b) no copy is older than its bound, no bound is greater than its allowance."""
        net = self.net
        for name in net.names:
            cache = net[name]
            for key in net.key_names:
                if key in cache:
                    self.case.assertLessEqual(net.age(name, key), cache.bound(key))
                    self.case.assertLessEqual(cache.bound(key), cache.allowance(key))
                    self.case.assertGreaterEqual(cache.bound(key), 0)
                    self.case.assertEqual(
                        cache.bound(key), cache.told(key) + cache.allowance(key) - cache[key][0]
                    )

    def check_entries(self):
        """(f) a node confirms nothing that it has not heard."""
        net, case = self.net, self.case
        for name in net.names:
            cache = net[name]
            for child in cache.children:
                for key in net.key_names:
                    confirmed, granted = cache.entry(child, key)
                    case.assertGreaterEqual(granted, cache.allowance(key))
                    case.assertGreaterEqual(confirmed + granted, cache.told(key) + cache.allowance(key))
                    case.assertLessEqual(confirmed, cache[key][0])
                    if child in net and key in net[child]:
                        sent = [row[2] for row in net.messages(child, name) if row[:2] == ("confirm", key)]
                        case.assertEqual([confirmed, *sent], sorted([confirmed, *sent]))
                        case.assertEqual([confirmed, *sent][-1], net[child].told(key))
                        case.assertLessEqual(net[child].told(key), net[child][key][0])

    def check_waiting(self):
        """(d) a write waits only for a confirm; if all is delivered and none crashed, none waits."""
        net = self.net
        for key in net.key_names:
            if net.waiting(key):
                self.case.assertFalse(self.room(key))
        if any(net.waiting(key) for key in net.key_names) and not crashed_names(net):
            other = net.copy()
            drain(other)
            self.case.assertEqual([other.waiting(key) for key in net.key_names], [[]] * len(net.key_names))

    def check_numbers(self, deed):
        """(f) a copy is never replaced by an older one, also if its node recovers."""
        net = self.net
        for name in net.names:
            for key in net.key_names:
                row = (name, self.born[name], key)
                if key in net[name]:
                    number = net[name][key][0]
                    self.case.assertGreaterEqual(number, self.numbers.get(row, 0))
                    self.case.assertGreaterEqual(number, self.had.get(row, 0))
                    self.numbers[row] = number
        if deed[0] == "recover":
            for key in net.key_names:
                last = (deed[1], self.born[deed[1]] - 1, key)
                had = max(self.numbers.get(last, 0), self.had.get(last, 0))
                self.had[deed[1], self.born[deed[1]], key] = had

    def check_sharp(self, name, key):
        """(e) a node that hears nothing gets exactly as old as its bound, and never older."""
        if crashed_names(self.net) or changes_under_way(self.net, self.raising) or key not in self.net[name]:
            return False
        net = self.net.copy()
        bound = net[name].bound(key)
        while True:
            links = [link for link in net.links() if link[1] != name]
            if links:
                net.deliver(*links[0])
            elif net.waiting(key):
                break
            elif name == "store":
                break
            else:
                net.write(key, 0)
            self.case.assertLessEqual(net.age(name, key), bound)
        self.case.assertEqual(net.age(name, key), bound)
        return True


class GuaranteesTest(unittest.TestCase):
    def test_histories(self):
        done, sharp, verbs, found = 0, 0, {}, []
        for seed in range(HISTORIES):
            draw = Draw(seed)
            keys = [["price"], ["price", "size"], ["c", "b", "a"]][seed % 3]
            weights = WEIGHTS[seed % len(WEIGHTS)]
            watch = Watch(self, Net(keys))
            for turn in range(DEEDS):
                if turn == DEEDS // 2:
                    middle = watch.net.copy()
                    shown = (picture(middle), inner(middle))
                deed = draw_deed(draw, watch.net, weights)
                with self.subTest(seed=seed, deed=deed, at=len(watch.net.history)):
                    if watch.do(deed):
                        done += 1
                        verbs[deed[0]] = verbs.get(deed[0], 0) + 1
                        sharp += watch.check_sharp(draw.pick(list(watch.net.names)), draw.pick(keys))
            self.check_replay(watch.net)
            self.check_copy(watch.net, middle, shown)
            found.extend(answers(watch.net))
        # The rule must draw enough of everything, or the checks above say little.
        self.assertGreater(done, HISTORIES * DEEDS // 2)
        self.assertGreater(sharp, done // 5)
        self.assertEqual(sorted(verbs), sorted(WEIGHTS[0]))
        self.assertGreater(min(verbs.values()), 50)
        self.assertGreater(len([row for row in found if row and row[2] != "store"]), 100)
        self.assertGreater(found.count(None), 100)

    def check_replay(self, net):
        """(g) replaying a history gives an equal net."""
        history = net.history
        for at in (len(history), len(history) // 2):
            again = Net.replay(net.key_names, history[:at])
            self.assertEqual(again.history, history[:at])
            if at == len(history):
                self.assertEqual(again, net)
                self.assertEqual((picture(again), inner(again)), (picture(net), inner(net)))
            else:
                for deed in history[at:]:
                    again.perform(deed)
                self.assertEqual((picture(again), inner(again)), (picture(net), inner(net)))

    def check_copy(self, net, middle, shown):
        """A copy from the middle of the history is as it was, and goes on as the net did."""
        self.assertEqual((picture(middle), inner(middle)), shown)
        for deed in net.history[len(middle.history):]:
            middle.perform(deed)
        self.assertEqual((picture(middle), inner(middle)), (picture(net), inner(net)))


if __name__ == "__main__":
    unittest.main()
