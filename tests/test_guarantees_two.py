"""Guarantees (l) to (o) over nets that are drawn by a fixed rule, crashes and leaving among them."""

import unittest

from slackcache.conditions import parse_condition
from slackcache.errors import CacheError
from slackcache.explorer import greatest_age, shortest
from slackcache.net import Net
from slackcache.planning import path_to
from slackcache.waits import freeing, frees, is_settled, sharp, waits
from tests.drawing import WEIGHTS, Draw, crashed_names, draw_deed
from tests.helpers import drain, inner
from tests.test_explorer import own_steps, plain_greatest, plain_shortest
from tests.test_planning import check_path

# Many writes and few deliveries, so that writes wait.
HEAVY = {"deliver": 30, "write": 60, "read": 6, "change": 12, "join": 10, "leave": 3, "crash": 2, "recover": 2, "forget": 2}


def drawn_nets(seeds, length, least=0):
    """Nets after each of many deeds."""
    for seed in seeds:
        draw = Draw(seed + 7000)
        net = Net(["price", "size"][:1 + draw.below(2)])
        weights = HEAVY if seed % 2 else WEIGHTS[seed % len(WEIGHTS)]
        for turn in range(length):
            try:
                net.perform(draw_deed(draw, net, weights))
            except CacheError:
                continue
            if turn >= least:
                yield net


def is_blocked(net, key):
    """Whether a crashed node's entry has confirmed + granted at most the number of the store."""
    crashed = crashed_names(net)
    return any(sum(net[name].entry(child, key)) <= net.number(key)
               for name in net.names for child in net[name].children if child in crashed)


def under_way(net):
    return {message[0] for link in net.links() for message in net.messages(*link)}


class GuaranteeTest(unittest.TestCase):
    def test_l_deliveries_that_free_a_write(self):
        freed = blocked = 0
        for net in drawn_nets(range(120), 90, 20):
            for key in net.key_names:
                if not net.waiting(key):
                    continue
                before = inner(net)
                links = freeing(net, key)
                self.assertEqual(links is None, is_blocked(net, key))
                if links is None:
                    blocked += 1
                    twin = net.copy()
                    drain(twin)
                    self.assertEqual(twin.number(key), net.number(key))
                    continue
                freed += 1
                self.assertTrue(frees(net, key, links))
                for at in range(len(links)):
                    self.assertFalse(frees(net, key, links[:at] + links[at + 1:]))
                self.assertEqual(inner(net), before)
        self.assertGreater(freed, 1000)
        self.assertGreater(blocked, 300)

    def test_l_no_rows_are_left_when_a_write_is_free(self):
        rows = 0
        for net in drawn_nets(range(60), 90, 40):
            for key in net.key_names:
                if not net.waiting(key):
                    continue
                found = list(waits(net, key))
                holding = [child for child in net["store"].children
                           if net.number(key) + 1 - net["store"].entry(child, key)[0] > net["store"].entry(child, key)[1]]
                self.assertEqual([row[0] for row in found if row[0] in holding], holding)
                rows += len(found)
                for at, (child, number, reason) in enumerate(found):
                    self.assertIn(reason, ("confirm", "crashed", "gone", "update", "below"))
                    if reason == "below":
                        self.assertIn(found[at + 1][0], net[child].children)
        self.assertGreater(rows, 1000)

    def test_m_sharp_histories(self):
        done = 0
        for net in drawn_nets(range(120), 60, 30):
            settled = is_settled(net)
            # Word for word, but for raises, which show only in what a change would say.
            if crashed_names(net) or under_way(net) & {"lower", "raise", "agree"}:
                self.assertFalse(settled)
            if not settled or len(net.history) % 3:
                continue
            for name in net.names:
                for key in net.key_names:
                    if key not in net[name]:
                        continue
                    bound = net[name].bound(key)
                    twin = net.copy()
                    for deed in sharp(net, name, key):
                        self.assertTrue(deed == ("write", key, 0) or (deed[0] == "deliver" and deed[2] != name))
                        twin.perform(deed)
                    self.assertEqual(twin.age(name, key), bound)
                    done += 1
        self.assertGreater(done, 1000)

    def test_n_shortest_continuations(self):
        found = missed = 0
        goals = [parse_condition(text) for text in
                 ("waiting price = 0", "age north price = 0 and told north price > 1", "number price > 3", "nodes = 1",
                  "sent store north = 0 and sent north store = 0", "age oslo price >= 2 or age rome price >= 2")]
        for net in drawn_nets(range(40), 30, 27):
            for goal in goals:
                path = shortest(net, goal, 3)
                self.assertEqual(path, plain_shortest(net, goal, 3, own_steps))
                found += path is not None
                missed += path is None
            for name in net.names[:3]:
                if "price" in net[name]:
                    self.assertEqual(greatest_age(net, name, "price", 2), plain_greatest(net, name, "price", 2))
        self.assertGreater(found, 50)
        self.assertGreater(missed, 50)

    def test_n_no_copy_becomes_older_than_its_bound(self):
        for net in drawn_nets(range(30), 30, 29):
            for name in net.names[1:4]:
                if "price" in net[name]:
                    age, path = greatest_age(net, name, "price", 5)
                    self.assertLessEqual(age, net[name].allowance("price") + net.number("price"))
                    twin = net.copy()
                    for deed in path:
                        twin.perform(deed)
                    self.assertEqual(twin.age(name, "price"), age)
                    self.assertLessEqual(age, twin[name].bound("price"))

    def test_o_changes_lead_to_the_target(self):
        done = 0
        for net in drawn_nets(range(60), 60, 40):
            if not is_settled(net) or len(net.history) % 4:
                continue
            draw = Draw(len(net.history))
            target = {}
            for name in net.names[1:]:
                least = target.get(net[name].parent, {})
                target[name] = {key: least.get(key, 1) + draw.below(4) for key in net.key_names}
            check_path(self, net, target)
            done += 1
            self.assertEqual(path_to(net, target), path_to(Net.replay(net.key_names, net.history), target))
        self.assertGreater(done, 40)


if __name__ == "__main__":
    unittest.main()
