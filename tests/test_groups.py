"""Point 13: cuts of nets, group bounds, and the keys to ask."""

import itertools
import unittest

from slackcache.cuts import Cut, cut_at, group_bound, keys_to_ask
from slackcache.errors import InvalidKeys, InvalidNeed, NoCopy, UnknownNode
from slackcache.net import Net
from tests.drawing import WEIGHTS, Draw, draw_deed
from tests.helpers import LIST_OF_A_WORD, ODD, TUPLE_OF_A_WORD, Hostile, check_refused, deliver_all, drain, tree

KEYS = ("price", "size", "color", "age")


def bounds_net(*bounds):
    """A net with a node north whose copies have these bounds, in the order of the keys."""
    keys = KEYS[:len(bounds)]
    net = tree(("north", "store", bounds), keys=keys)
    for key in keys:
        net.write(key, 5)
    return net


def groups(keys):
    """All lists of different keys in any order."""
    return [list(row) for many in range(1, len(keys) + 1) for row in itertools.permutations(keys, many)]


def best_choice(bounds, keys, need):
    """The keys to ask, by a look at all choices: few, with great bounds, named early."""
    rows = []
    for many in range(len(keys) + 1):
        for places in itertools.combinations(range(len(keys)), many):
            asked = [keys[place] for place in places]
            if sum(bounds[key] for key in keys if key not in asked) <= need:
                greatness = sorted((-bounds[key] for key in asked))
                rows.append((many, greatness, list(places), tuple(asked)))
    return min(rows)[-1]


class GroupBoundTest(unittest.TestCase):
    def test_sums(self):
        net = bounds_net(3, 1, 7, 2)
        self.assertEqual(group_bound(net, "north", ["price"]), 3)
        self.assertEqual(group_bound(net, "north", ("age", "price")), 5)
        self.assertEqual(group_bound(net, "north", ["size", "price", "age", "color"]), 13)
        for keys in groups(KEYS):
            expected = sum(net["north"].bound(key) for key in keys)
            self.assertEqual((group_bound(net, "north", keys), group_bound(net, "north", tuple(keys))), (expected,) * 2)
            self.assertEqual(group_bound(net, "store", keys), 0)
        drain(net)
        self.assertEqual(group_bound(net, "north", ["price", "size"]), 4)
        net.write("price", 1)
        net.write("price", 1)
        net.deliver("store", "north")
        self.assertEqual(group_bound(net, "north", ["price", "size"]), 4)


class AskTest(unittest.TestCase):
    def test_needs_just_below_and_at_a_sum(self):
        net = bounds_net(3, 1, 7, 2)
        keys = ["price", "size", "color", "age"]
        found = {need: keys_to_ask(net, "north", keys, need) for need in (0, 2, 3, 5, 6, 12, 13, 999)}
        self.assertEqual(found, {
            0: ("price", "size", "color", "age"), 2: ("price", "color", "age"), 3: ("price", "color"),
            5: ("price", "color"), 6: ("color",), 12: ("color",), 13: (), 999: (),
        })

    def test_the_order_of_the_argument(self):
        net = bounds_net(3, 1, 7, 2)
        self.assertEqual(keys_to_ask(net, "north", ["price", "color"], 0), ("price", "color"))
        self.assertEqual(keys_to_ask(net, "north", ["color", "price"], 0), ("color", "price"))
        self.assertEqual(keys_to_ask(net, "north", ("age", "color", "price"), 2), ("color", "price"))

    def test_equal_bounds_are_asked_in_the_order_in_which_they_are_named(self):
        net = bounds_net(2, 2, 2, 2)
        for keys in itertools.permutations(KEYS):
            for need, many in ((0, 4), (1, 4), (2, 3), (3, 3), (4, 2), (6, 1), (7, 1), (8, 0)):
                self.assertEqual(keys_to_ask(net, "north", list(keys), need), keys[:many])
        net = bounds_net(2, 5, 2, 2)
        self.assertEqual(keys_to_ask(net, "north", ["age", "color", "price", "size"], 4), ("age", "size"))
        self.assertEqual(keys_to_ask(net, "north", ["color", "size", "age", "price"], 4), ("color", "size"))

    def test_against_a_look_at_all_choices(self):
        draw = Draw(5)
        for turn in range(40):
            bounds = [1 + draw.below(4 if turn % 2 else 9) for _ in KEYS]
            net = bounds_net(*bounds)
            there = dict(zip(KEYS, bounds))
            for keys in groups(KEYS):
                for need in (0, draw.below(20), sum(there[key] for key in keys)):
                    expected = best_choice(there, keys, need)
                    self.assertEqual(keys_to_ask(net, "north", keys, need), expected, (bounds, keys, need))

    def test_keys_that_were_never_written(self):
        net = tree(("north", "store", (2, 3)), keys=("price", "size"))
        self.assertEqual([keys_to_ask(net, "north", ["price", "size"], need) for need in (5, 4, 2, 1)],
                         [(), ("size",), ("size",), ("price", "size")])
        self.assertEqual(keys_to_ask(net, "store", ["size"], 0), ())

    def test_the_store_asks_nothing(self):
        net = bounds_net(3, 1)
        for keys in groups(KEYS[:2]):
            self.assertEqual(keys_to_ask(net, "store", keys, 0), ())

    def test_a_bound_of_0_needs_no_question(self):
        net = tree(("north", "store", (1, 1)), ("oslo", "north", (1, 1)), keys=("a", "b"))
        net.write("a", 1)
        net.deliver("store", "north")
        self.assertEqual([net["north"].bound(key) for key in "ab"], [0, 1])
        self.assertEqual(keys_to_ask(net, "north", ["a", "b"], 0), ("b",))
        self.assertEqual(keys_to_ask(net, "north", ["a"], 0), ())


class CutAtTest(unittest.TestCase):
    def test_numbers_of_the_copies(self):
        net = tree(("north", "store", (3, 3)), keys=("price", "size"))
        for key in ("price", "size", "price"):
            net.write(key, 7)
        net.deliver("store", "north")
        net.deliver("store", "north")
        order = ("price", "size", "price")
        self.assertEqual(cut_at(net, "north", ["price", "size"]), Cut(order, {"price": 1, "size": 1}))
        self.assertEqual(cut_at(net, "north", ("size",)), Cut(order, {"size": 1}))
        self.assertEqual(cut_at(net, "store", ["size", "price"]), Cut(order, {"price": 2, "size": 1}))
        self.assertEqual(cut_at(net, "north", ["size", "price"]).seen, (2, 2))
        kept = cut_at(net, "north", ["price"])
        net.write("price", 1)
        drain(net)
        self.assertEqual((kept.order, kept.numbers), (order, {"price": 1}))

    def test_a_net_without_writes(self):
        net = Net(["a", "b"])
        self.assertEqual(cut_at(net, "store", ["b"]), Cut((), {"b": 0}))

    def test_messages_of_one_link_show_a_moment(self):
        """A child of the store hears the writes of all keys in their order, so its cuts are seen."""
        draw = Draw(9)
        seen = 0
        for seed in range(20):
            net = Net(["c", "a", "b"])
            for _ in range(100):
                deed = draw_deed(draw, net, WEIGHTS[1])
                try:
                    net.perform(deed)
                except Exception:
                    continue
                for name in net.names:
                    if len(net[name]) == 3:
                        cut = cut_at(net, name, ["a", "b", "c"])
                        self.assertEqual(cut.numbers, {key: net[name][key][0] for key in "abc"})
                        self.assertIsNotNone(cut.seen)
                        seen += 1
        self.assertGreater(seen, 1000)


class WrongTest(unittest.TestCase):
    def setUp(self):
        self.net = tree(("north", "store", (2, 3)), keys=("price", "size"))
        self.net.join("oslo", "north", {"price": 4, "size": 5})
        self.net.deliver("north", "oslo")
        self.net.write("price", 5)

    def calls(self):
        return [
            lambda name, keys, need: cut_at(self.net, name, keys),
            lambda name, keys, need: group_bound(self.net, name, keys),
            lambda name, keys, need: keys_to_ask(self.net, name, keys, need),
        ]

    def test_names_are_checked_first(self):
        for call in self.calls():
            for name in [*ODD, "rome", "price"]:
                for keys in (["price"], None, Hostile(), ["size"]):
                    check_refused(self, self.net, UnknownNode, {"node": name}, call, name, keys, -1)
        self.net.crash("oslo")
        for call in self.calls():
            check_refused(self, self.net, UnknownNode, {"node": "oslo"}, call, "oslo", ["price"], 0)

    def test_then_the_keys(self):
        wrong = [
            *[obj for obj in ODD if obj is not LIST_OF_A_WORD and obj is not TUPLE_OF_A_WORD], "price", [], (), ["price", "price"],
            ("size", "price", "size"), ["color"], ["price", "color"], ["price", None], ["price", []], [["price"]],
            {"price": 1}, {"price"}, [Hostile()], ("price", Hostile()), ["price", True], iter(["price"]), [b"price"],
        ]
        for call in self.calls():
            for keys in wrong:
                for name in ("north", "oslo", "store"):
                    check_refused(self, self.net, InvalidKeys, {"given": keys}, call, name, keys, -1)

    def test_then_the_copies(self):
        for call in self.calls():
            for keys in (["size"], ["price", "size"], ("size", "price")):
                for need in (0, -1, None):
                    check_refused(self, self.net, NoCopy, {"word": "size"}, call, "oslo", keys, need)
        other = Net(["a", "b"])
        other.join("north", "store", {"a": 1, "b": 1})
        for call in (cut_at, group_bound):
            check_refused(self, other, NoCopy, {"word": "b"}, call, other, "north", ["b", "a"])
            check_refused(self, other, NoCopy, {"word": "a"}, call, other, "north", ["a", "b"])
        check_refused(self, other, NoCopy, {"word": "b"}, keys_to_ask, other, "north", ["b", "a"], 0)

    def test_then_the_need(self):
        for need in [*ODD, -1, 1000, "1"]:
            check_refused(self, self.net, InvalidNeed, {"given": need}, keys_to_ask, self.net, "north", ["price"], need)
            check_refused(self, self.net, InvalidNeed, {"given": need}, keys_to_ask, self.net, "store", ("size",), need)
        self.assertEqual(keys_to_ask(self.net, "north", ["price"], 0), ("price",))
        self.assertEqual(keys_to_ask(self.net, "north", ["price"], 999), ())

    def test_nothing_changes(self):
        net = self.net
        before = (net.history, list(net.links()))
        cut_at(net, "north", ["price"])
        group_bound(net, "north", ["price"])
        keys_to_ask(net, "north", ["price"], 0)
        deliver_all(net, "north", "store")
        self.assertEqual((net.history, list(net.links())), before)


if __name__ == "__main__":
    unittest.main()
