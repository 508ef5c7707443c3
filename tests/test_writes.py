"""Points 7 and 8: writes that are accepted or wait, updates, limits and confirms, step by step."""

import unittest

from slackcache.errors import InvalidValue, LimitExceeded, UnknownKey
from slackcache.net import Net
from tests.helpers import ODD, check_refused, deliver_all, drain, tree


def row(net, name, key="price"):
    """The copy, what was told, the allowance and the bound of a node."""
    cache = net[name]
    return (*cache[key], cache.told(key), cache.allowance(key), cache.bound(key))


class WriteTest(unittest.TestCase):
    def test_a_store_alone_accepts_every_write(self):
        net = Net(["price"])
        for number in range(1, 31):
            self.assertEqual(net.write("price", -number), number)
        self.assertEqual((net.number("price"), net["store"]["price"], net.waiting("price")), (30, (30, -30), []))
        self.assertEqual(net.order, ("price",) * 30)

    def test_wrong_keys_and_values(self):
        net = Net(["price", "size"])
        for key in [*ODD, "store", "prices", "pric", ("price", "size")]:
            check_refused(self, net, UnknownKey, {"word": key}, net.write, key, 5)
        for value in [obj for obj in ODD] + ["5", 5.0, 2 + 0j]:
            check_refused(self, net, InvalidValue, {"given": value}, net.write, "price", value)
        for value in (0, -1, 10**29, -(10**29)):
            net.write("size", value)
            self.assertEqual(net["store"]["size"][1], value)

    def test_as_many_writes_as_the_allowance_of_a_node_that_hears_nothing(self):
        for slack in (1, 2, 3, 7, 99):
            net = tree(("north", "store", slack))
            numbers = [net.write("price", 0) for _ in range(slack + 2)]
            self.assertEqual(numbers, list(range(1, slack + 1)) + [None, None])
            self.assertEqual((net.number("price"), net.age("north", "price")), (slack, slack))
            self.assertEqual(net["north"].bound("price"), slack)
            self.assertEqual(net.messages("store", "north")[-1], ("update", "price", slack, 0))

    def test_each_entry_of_the_store_must_have_room(self):
        net = tree(("north", "store", 3), ("south", "store", 1), ("west", "store", 2))
        self.assertEqual([net.write("price", 5), net.write("price", 6)], [1, None])
        deliver_all(net, "store", "north")
        deliver_all(net, "store", "west")
        deliver_all(net, "north", "store")
        deliver_all(net, "west", "store")
        self.assertEqual((net.waiting("price"), net.number("price")), ([6], 1))
        deliver_all(net, "store", "south")
        self.assertEqual((net.waiting("price"), net.number("price")), ([6], 1))
        self.assertEqual(deliver_all(net, "south", "store"), [("confirm", "price", 1)])
        self.assertEqual((net.waiting("price"), net.number("price")), ([], 2))
        for name in ("north", "south", "west"):
            self.assertEqual(net.messages("store", name), [("update", "price", 2, 6)])

    def test_a_node_that_has_no_copy_yet_counts_from_the_number_that_it_was_sent(self):
        net = Net(["price"])
        net.write("price", 4)
        net.join("north", "store", {"price": 2})
        self.assertEqual([net.write("price", 5), net.write("price", 6), net.write("price", 7)], [2, 3, None])
        sent = [("copy", "price", 1, 4, 2), ("update", "price", 2, 5), ("update", "price", 3, 6)]
        self.assertEqual(net.messages("store", "north"), sent)
        deliver_all(net, "store", "north")
        self.assertEqual(row(net, "north"), (3, 6, 3, 2, 2))
        self.assertEqual(net.messages("north", "store"), [("confirm", "price", 2), ("confirm", "price", 3)])

    def test_writes_of_one_key_wait_alone(self):
        net = tree(("north", "store", (1, 2, 3, 4)), keys=("a", "b", "c", "d"))
        found = [[net.write(key, 10 + at) for at in range(4)] for key in "abcd"]
        expected = [[1, None, None, None], [1, 2, None, None], [1, 2, 3, None], [1, 2, 3, 4]]
        self.assertEqual(found, expected)
        self.assertEqual([net.waiting(key) for key in "abcd"], [[11, 12, 13], [12, 13], [13], []])
        self.assertEqual(net.order, tuple("abbcccdddd"))

    def test_twenty_waiting_writes_and_a_twenty_first(self):
        net = tree(("north", "store", 1), keys=("price", "size"))
        net.write("price", 0)
        for value in range(1, 21):
            self.assertIsNone(net.write("price", value))
        check_refused(self, net, LimitExceeded, {"limit": 20}, net.write, "price", 21)
        check_refused(self, net, InvalidValue, {"given": "x"}, net.write, "price", "x")
        check_refused(self, net, UnknownKey, {"word": "pric"}, net.write, "pric", "x")
        self.assertEqual(net.write("size", 4), 1)
        self.assertEqual(net.waiting("price"), list(range(1, 21)))
        net.deliver("store", "north")
        net.deliver("north", "store")
        self.assertEqual((net.number("price"), net.waiting("price")), (2, list(range(2, 21))))
        self.assertIsNone(net.write("price", 21))
        check_refused(self, net, LimitExceeded, {"limit": 20}, net.write, "price", 22)
        drain(net)
        self.assertEqual((net.number("price"), net.waiting("price"), net["north"]["price"]), (22, [], (22, 21)))

    def test_a_write_that_waits_is_noted_once_where_it_was_asked_for(self):
        net = tree(("north", "store", 1))
        net.write("price", 5)
        net.write("price", 6)
        net.deliver("store", "north")
        net.deliver("north", "store")
        self.assertEqual(net.history[2:], (
            ("write", "price", 5), ("write", "price", 6), ("deliver", "store", "north"), ("deliver", "north", "store"),
        ))
        self.assertEqual((net.order, net.number("price")), (("price", "price"), 2))


class ChainTest(unittest.TestCase):
    def test_a_chain_by_hand(self):
        net = tree(("north", "store", 3), ("oslo", "north", 5))
        self.assertEqual([net.write("price", value) for value in (10, 20, 30, 40)], [1, 2, 3, None])
        updates = [("update", "price", 1, 10), ("update", "price", 2, 20), ("update", "price", 3, 30)]
        self.assertEqual(net.messages("store", "north"), updates)
        self.assertEqual(net.messages("north", "oslo"), [])
        net.deliver("store", "north")
        self.assertEqual(row(net, "north"), (1, 10, 1, 3, 3))
        net.deliver("store", "north")
        self.assertEqual(row(net, "north"), (2, 20, 2, 3, 3))
        net.deliver("store", "north")
        # The limit is granted + confirmed - allowance = 5 + 0 - 3.
        self.assertEqual(row(net, "north"), (3, 30, 2, 3, 2))
        self.assertEqual(net.messages("north", "store"), [("confirm", "price", 1), ("confirm", "price", 2)])
        self.assertEqual(net.messages("north", "oslo"), updates)
        self.assertEqual(row(net, "oslo"), (0, 0, 0, 5, 5))

        self.assertEqual(net.deliver("north", "store"), ("confirm", "price", 1))
        self.assertEqual(net["store"].entry("north", "price"), (1, 3))
        self.assertEqual((net.number("price"), net.waiting("price")), (4, []))
        self.assertEqual(net.messages("store", "north"), [("update", "price", 4, 40)])
        self.assertIsNone(net.write("price", 50))
        net.deliver("north", "store")
        self.assertEqual((net.number("price"), net["store"]["price"]), (5, (5, 50)))

        net.deliver("north", "oslo")
        self.assertEqual(row(net, "oslo"), (1, 10, 1, 5, 5))
        self.assertEqual(net["north"].entry("oslo", "price"), (0, 5))
        self.assertEqual(net.deliver("oslo", "north"), ("confirm", "price", 1))
        self.assertEqual(net["north"].entry("oslo", "price"), (1, 5))
        self.assertEqual(row(net, "north"), (3, 30, 3, 3, 3))
        self.assertEqual(net.messages("north", "store"), [("confirm", "price", 3)])

        net.deliver("store", "north")
        net.deliver("store", "north")
        # Again the child bars: 5 + 1 - 3.
        self.assertEqual(row(net, "north"), (5, 50, 3, 3, 1))
        self.assertEqual(net.messages("north", "store"), [("confirm", "price", 3)])
        deliver_all(net, "north", "oslo")
        self.assertEqual(row(net, "oslo"), (5, 50, 5, 5, 5))
        self.assertEqual([message[2] for message in net.messages("oslo", "north")], [2, 3, 4, 5])
        net.deliver("oslo", "north")
        self.assertEqual(row(net, "north"), (5, 50, 4, 3, 2))
        net.deliver("oslo", "north")
        self.assertEqual(row(net, "north"), (5, 50, 5, 3, 3))
        net.deliver("oslo", "north")
        self.assertEqual(row(net, "north"), (5, 50, 5, 3, 3))
        self.assertEqual([message[2] for message in net.messages("north", "store")], [3, 4, 5])
        drain(net)
        self.assertEqual(net["store"].entry("north", "price"), (5, 3))
        self.assertEqual(net["north"].entry("oslo", "price"), (5, 5))

    def test_the_least_of_all_children_is_the_limit(self):
        net = tree(("hub", "store", 2), ("ann", "hub", 2), ("bob", "hub", 3), ("cat", "hub", 9))
        for value in (1, 2):
            net.write("price", value)
        deliver_all(net, "store", "hub")
        # ann: 2 + 0 - 2, bob: 3 + 0 - 2, cat: 9 + 0 - 2.
        self.assertEqual(row(net, "hub"), (2, 2, 0, 2, 0))
        self.assertEqual(net.messages("hub", "store"), [])
        deliver_all(net, "hub", "cat")
        deliver_all(net, "cat", "hub")
        deliver_all(net, "hub", "bob")
        deliver_all(net, "bob", "hub")
        self.assertEqual(row(net, "hub"), (2, 2, 0, 2, 0))
        deliver_all(net, "hub", "ann")
        net.deliver("ann", "hub")
        self.assertEqual(row(net, "hub"), (2, 2, 1, 2, 1))
        net.deliver("ann", "hub")
        self.assertEqual(row(net, "hub"), (2, 2, 2, 2, 2))
        self.assertEqual(net.messages("hub", "store"), [("confirm", "price", 1), ("confirm", "price", 2)])

    def test_one_confirm_for_several_steps(self):
        net = tree(("hub", "store", 4), ("ann", "hub", 4), ("bob", "ann", 8))
        for value in (1, 2, 3, 4):
            net.write("price", value)
        deliver_all(net, "store", "hub")
        self.assertEqual(net.messages("hub", "store"), [])
        deliver_all(net, "hub", "ann")
        # 8 + 0 - 4 lets ann tell 4.
        self.assertEqual([message[2] for message in net.messages("ann", "hub")], [1, 2, 3, 4])
        net.crash("ann")
        net.recover("ann")
        # The entry is 4 at once, and so is the limit of hub.
        self.assertEqual(net.messages("hub", "store"), [("confirm", "price", 4)])

    def test_three_levels_by_hand(self):
        net = tree(("x", "store", 1), ("y", "x", 2), ("z", "y", 2))
        self.assertEqual([net.write("price", 7), net.write("price", 8)], [1, None])
        net.deliver("store", "x")
        # x: 2 + 0 - 1 lets it tell 1.
        self.assertEqual(row(net, "x"), (1, 7, 1, 1, 1))
        net.deliver("x", "store")
        self.assertEqual((net.number("price"), net.waiting("price")), (2, []))
        net.deliver("store", "x")
        self.assertEqual(row(net, "x"), (2, 8, 1, 1, 0))
        net.deliver("x", "y")
        # y: 2 + 0 - 2 lets it tell 0 only.
        self.assertEqual(row(net, "y"), (1, 7, 0, 2, 1))
        net.deliver("x", "y")
        self.assertEqual(row(net, "y"), (2, 8, 0, 2, 0))
        self.assertIsNone(net.write("price", 9))
        net.deliver("y", "z")
        net.deliver("z", "y")
        self.assertEqual(row(net, "y"), (2, 8, 1, 2, 1))
        net.deliver("y", "x")
        self.assertEqual(row(net, "x"), (2, 8, 2, 1, 1))
        net.deliver("x", "store")
        self.assertEqual((net.number("price"), net.order), (3, ("price",) * 3))

    def test_keys_are_told_apart(self):
        net = tree(("north", "store", (2, 5)), ("oslo", "north", (9, 5)), keys=("a", "b"))
        net.write("b", 1)
        net.write("a", 2)
        net.write("b", 3)
        sent = [("update", "b", 1, 1), ("update", "a", 1, 2), ("update", "b", 2, 3)]
        self.assertEqual(deliver_all(net, "store", "north"), sent)
        self.assertEqual(net.messages("north", "oslo"), sent)
        self.assertEqual(net.messages("north", "store"), [("confirm", "a", 1)])
        self.assertEqual((row(net, "north", "a"), row(net, "north", "b")), ((1, 2, 1, 2, 2), (2, 3, 0, 5, 3)))
        net.deliver("north", "oslo")
        self.assertEqual(net.deliver("oslo", "north"), ("confirm", "b", 1))
        self.assertEqual(net["north"].entry("oslo", "b"), (1, 5))
        self.assertEqual(net["north"].entry("oslo", "a"), (0, 9))
        self.assertEqual(net.messages("north", "store"), [("confirm", "a", 1), ("confirm", "b", 1)])


class SeveralAtOnceTest(unittest.TestCase):
    def waiting_net(self):
        keys = ("size", "price", "age")
        net = tree(("north", "store", 1), ("south", "store", 9), keys=keys)
        for key, value in (
            ("age", 1), ("price", 2), ("size", 3), ("age", 4), ("price", 5), ("age", 6), ("size", 7), ("price", 8),
        ):
            net.write(key, value)
        self.assertEqual(net.order, ("age", "price", "size"))
        self.assertEqual([net.waiting(key) for key in keys], [[7], [5, 8], [4, 6]])
        return net

    def check_accepted(self, net):
        added = ("size", "price", "price", "age", "age")
        self.assertEqual(net.order, ("age", "price", "size", *added))
        sent = net.messages("store", "south")[3:]
        self.assertEqual(sent, [
            ("update", "size", 2, 7), ("update", "price", 2, 5), ("update", "price", 3, 8),
            ("update", "age", 2, 4), ("update", "age", 3, 6),
        ])
        self.assertEqual([net.waiting(key) for key in net.key_names], [[], [], []])

    def test_a_forgotten_node_frees_writes_key_by_key(self):
        net = self.waiting_net()
        net.crash("north")
        self.assertEqual(net.order, ("age", "price", "size"))
        net.forget("north")
        self.check_accepted(net)

    def test_a_node_that_left_frees_writes_key_by_key(self):
        net = self.waiting_net()
        net.leave("north")
        self.assertEqual(net.order, ("age", "price", "size"))
        net.deliver("north", "store")
        self.check_accepted(net)

    def test_a_node_that_recovers_frees_one_write_of_each_key(self):
        net = self.waiting_net()
        net.crash("north")
        net.recover("north")
        self.assertEqual(net.order[3:], ("size", "price", "age"))
        self.assertEqual([net.waiting(key) for key in net.key_names], [[], [8], [6]])
        self.assertEqual(net.messages("store", "north"), [
            ("copy", "size", 1, 3, 1), ("copy", "price", 1, 2, 1), ("copy", "age", 1, 1, 1),
            ("update", "size", 2, 7), ("update", "price", 2, 5), ("update", "age", 2, 4),
        ])

    def test_a_greater_grant_frees_as_many_writes_as_there_is_room(self):
        net = tree(("north", "store", 1), keys=("price", "size"))
        for value in range(1, 7):
            net.write("price", value)
        net.write("size", 8)
        net.change("north", "price", 4)
        deliver_all(net, "store", "north")
        self.assertEqual(
            net.messages("north", "store"), [("confirm", "price", 1), ("confirm", "size", 1), ("agree", "price", 4)]
        )
        net.deliver("north", "store")
        self.assertEqual((net.number("price"), net.waiting("price")), (2, [3, 4, 5, 6]))
        net.deliver("north", "store")
        self.assertEqual((net.number("price"), net.waiting("price")), (2, [3, 4, 5, 6]))
        net.deliver("north", "store")
        self.assertEqual((net.number("price"), net.waiting("price")), (5, [6]))


if __name__ == "__main__":
    unittest.main()
