"""The interface of the net: history, order, perform, replay, copies and equality."""

import unittest

from slackcache.errors import (
    CacheError, InvalidAllowance, InvalidDeed, InvalidHistory, InvalidKeys, InvalidName, InvalidNeed, InvalidValue,
    LimitExceeded, NameTaken, NoCopy, NoMessage, NotCrashed, TooLow, UnknownKey, UnknownNode,
)
from slackcache.net import Net
from tests.helpers import ODD, Hostile, check_refused, drain, inner, picture, tree

DEEDS = (
    ("join", "north", "store", (("size", 2), ("price", 1))),
    ("deliver", "store", "north"),
    ("deliver", "store", "north"),
    ("join", "oslo", "north", (("size", 3), ("price", 4))),
    ("write", "price", 5),
    ("write", "price", -6),
    ("read", "oslo", "size", 3, 0),
    ("read", "north", "price", 0, 1),
    ("change", "north", "size", 1),
    ("change", "north", "price", 3),
    ("deliver", "north", "oslo"),
    ("deliver", "store", "north"),
    ("deliver", "store", "north"),
    ("deliver", "north", "store"),
    ("leave", "oslo"),
    ("deliver", "oslo", "north"),
    ("crash", "north"),
    ("recover", "north"),
    ("crash", "north"),
    ("forget", "north"),
)

RESULTS = [
    None, ("copy", "size", 0, 0, 2), ("copy", "price", 0, 0, 1), None, 1, None, 1, 2, None, None,
    ("copy", "size", 0, 0, 3), ("update", "price", 1, 5), ("lower", "size", 1), ("question", 2, "price", 0, 1),
    None, ("question", 1, "size", 3, 0), None, None, None, None,
]


class HistoryTest(unittest.TestCase):
    def test_every_deed_is_noted_as_it_is_done(self):
        net = Net(["size", "price"])
        net.join("north", "store", {"price": 1, "size": 2})
        net.deliver("store", "north")
        net.deliver("store", "north")
        net.join("oslo", "north", {"price": 4, "size": 3})
        net.write("price", 5)
        net.write("price", -6)
        net.read("oslo", "size", 3)
        net.read("north", "price", 0, floor=1)
        net.change("north", "size", 1)
        net.change("north", "price", 3)
        net.deliver("north", "oslo")
        net.deliver("store", "north")
        net.deliver("store", "north")
        net.deliver("north", "store")
        net.leave("oslo")
        net.deliver("oslo", "north")
        net.crash("north")
        net.recover("north")
        net.crash("north")
        net.forget("north")
        self.assertEqual(net.history, DEEDS)

    def test_refused_deeds_and_looks_are_not_noted(self):
        net = tree(("north", "store", 1))
        before = net.history
        net.answer, net.number("price"), net.waiting("price"), net.age("north", "price"), net.messages("a", "b")
        list(net.links()), net["north"].bound("price"), net.copy(), len(net), net == net.copy()
        for deed in (("write", "size", 1), ("join", "north", "store", (("price", 1),)), ("leave", "rome")):
            with self.assertRaises(CacheError):
                net.perform(deed)
        self.assertEqual(net.history, before)

    def test_order_counts_a_write_when_it_is_accepted(self):
        net = tree(("north", "store", (1, 9)), keys=("a", "b"))
        for key in "aabab":
            net.write(key, 0)
        self.assertEqual(net.order, tuple("abb"))
        net.deliver("store", "north")
        net.deliver("north", "store")
        self.assertEqual(net.order, tuple("abba"))
        self.assertEqual([net.order.count(key) for key in "ab"], [net.number(key) for key in "ab"])


class PerformTest(unittest.TestCase):
    def test_each_deed_and_its_result(self):
        net = Net(["size", "price"])
        found = []
        for at, deed in enumerate(DEEDS):
            found.append(net.perform(deed))
            self.assertEqual(net.history, DEEDS[:at + 1])
        self.assertEqual(found, RESULTS)
        self.assertEqual([type(result) for result in found], [type(result) for result in RESULTS])

    def test_objects_that_are_no_deeds(self):
        net = tree(("north", "store", (2, 2)), keys=("price", "size"))
        join = ("join", "oslo", "store", (("price", 1), ("size", 1)))
        wrong = [
            *ODD, (), ("write",), ("write", "price"), ("write", "price", 1, 1), ("WRITE", "price", 1),
            ["write", "price", 1], ("look", "price"), ("number", "price"), ("read", "north", "price", 0),
            ("read", "north", "price", 0, 0, 0), ("change", "north", "price"), ("deliver", "store"),
            ("deliver", "store", "north", 1), ("leave",), ("leave", "north", "north"), ("crash",), ("forget",),
            ("recover",), ("recover", "north", 1), ("perform", join), ("copy",), ("links",), (None, "price", 1),
            (["write"], "price", 1), (Hostile(), "price", 1), (b"write", "price", 1), ("write price 1",),
            ("drain",), (("write", "price", 1),),
        ]
        for given in wrong:
            check_refused(self, net, InvalidDeed, {"given": given}, net.perform, given)
        net.perform(join)

    def test_joins_with_other_allowances_than_pairs_in_the_order_of_the_keys(self):
        net = Net(["size", "price"])
        wrong = [
            (), (("size", 1),), (("price", 1),), (("price", 1), ("size", 1)), (("size", 1), ("size", 1)),
            (("size", 1), ("price", 1), ("more", 1)), [("size", 1), ("price", 1)], {"size": 1, "price": 1},
            (["size", 1], ["price", 1]), (("size", 1), ["price", 1]), (("size", 1, 1), ("price", 1)),
            (("size",), ("price", 1)), ("size", "price"), (1, 1), None, (("size", 1), None), (("size", 1), 5),
            ((["size"], 1), ("price", 1)), ((Hostile(), 1), ("price", 1)), (("size", 1), ("Price", 1)), "ab", 7,
        ]
        for pairs in wrong:
            given = ("join", "north", "store", pairs)
            check_refused(self, net, InvalidDeed, {"given": given}, net.perform, given)
            given = ("join", 7, [], pairs)
            check_refused(self, net, InvalidDeed, {"given": given}, net.perform, given)

    def test_a_join_with_wrong_allowances_in_its_pairs(self):
        net = Net(["size", "price"])
        for obj in [*ODD, 0, 100, "1"]:
            deed = ("join", "north", "store", (("size", 1), ("price", obj)))
            with self.assertRaises(InvalidAllowance) as caught:
                net.perform(deed)
            self.assertEqual(list(caught.exception.given), ["size", "price"])
            self.assertIs(caught.exception.given["price"], obj)
            check_refused(self, net, InvalidName, {"given": obj}, net.perform, ("join", obj, obj, deed[3]))
        self.assertEqual(net.history, ())

    def test_then_the_errors_of_the_deed(self):
        net = tree(("north", "store", 2), ("oslo", "store", 1))
        net.crash("oslo")
        cases = [
            (("join", "oslo", [], (("price", []),)), NameTaken, {"node": "oslo"}),
            (("join", "rome", "oslo", (("price", 0),)), UnknownNode, {"node": "oslo"}),
            (("join", "rome", "north", (("price", 1),)), TooLow, {"least": 2}),
            (("write", "size", None), UnknownKey, {"word": "size"}),
            (("write", "price", None), InvalidValue, {"given": None}),
            (("read", "oslo", "size", -1, -1), UnknownNode, {"node": "oslo"}),
            (("read", "north", "price", -1, -2), InvalidNeed, {"given": -1}),
            (("read", "north", "price", 1, -2), InvalidNeed, {"given": -2}),
            (("change", "store", "price", 1), UnknownNode, {"node": "store"}),
            (("change", "north", "price", 0), InvalidAllowance, {"given": 0}),
            (("deliver", "store", "north"), NoMessage, {"sender": "store", "receiver": "north"}),
            (("leave", "oslo"), UnknownNode, {"node": "oslo"}),
            (("crash", "oslo"), UnknownNode, {"node": "oslo"}),
            (("forget", "north"), NotCrashed, {"node": "north"}),
            (("recover", "north"), NotCrashed, {"node": "north"}),
        ]
        for deed, error, fields in cases:
            check_refused(self, net, error, fields, net.perform, deed)


class ReplayTest(unittest.TestCase):
    def test_an_equal_net(self):
        first = Net(["size", "price"])
        for at, deed in enumerate(DEEDS):
            first.perform(deed)
            for again in (Net.replay(["size", "price"], first.history), Net.replay(("size", "price"), DEEDS[:at + 1])):
                self.assertIsInstance(again, Net)
                self.assertEqual(again, first)
                self.assertEqual(picture(again), picture(first))
                self.assertEqual(inner(again), inner(first))
        self.assertEqual(Net.replay(["price"], []), Net(["price"]))
        self.assertEqual(first.replay(["price"], ()), Net(["price"]))

    def test_wrong_keys_before_wrong_histories(self):
        for given in (ODD[0], [], "price", ["price", "price"]):
            for history in (None, [None], "x"):
                with self.assertRaises(InvalidKeys) as caught:
                    Net.replay(given, history)
                self.assertIs(caught.exception.given, given)

    def test_objects_that_are_no_list_or_tuple(self):
        for history in (None, "", "write", 0, {}, {0: ("write", "price", 1)}, {1}, iter([]), object(), Hostile()):
            with self.assertRaises(InvalidHistory) as caught:
                Net.replay(["price"], history)
            self.assertIsNone(caught.exception.index)

    def test_the_first_element_that_raises_an_error(self):
        good = [("join", "north", "store", (("price", 1),)), ("deliver", "store", "north"), ("write", "price", 1)]
        wrong = [*ODD, ("write", "size", 1), ("write", "price", "1"), ("deliver", "north", "store"), good[0], [1, 2]]
        for at in range(4):
            for bad in wrong:
                if at == 0 and bad is good[0]:
                    continue
                for kind in (list, tuple):
                    history = kind(good[:at] + [bad] + good[at:] + [bad])
                    with self.assertRaises(InvalidHistory) as caught:
                        Net.replay(["price"], history)
                    self.assertEqual((type(caught.exception.index), caught.exception.index), (int, at))


class CopyTest(unittest.TestCase):
    def test_a_copy_is_equal_and_independent(self):
        for at in range(len(DEEDS) + 1):
            net = Net.replay(["size", "price"], DEEDS[:at])
            other = net.copy()
            self.assertIsInstance(other, Net)
            self.assertIsNot(other, net)
            self.assertEqual(other, net)
            self.assertEqual(inner(other), inner(net))
            before = (picture(net), inner(net))
            for deed in DEEDS[at:]:
                other.perform(deed)
            other.write("size", 9)
            self.assertEqual((picture(net), inner(net)), before)
            for deed in DEEDS[at:]:
                net.perform(deed)
            net.write("size", 9)
            self.assertEqual(inner(other), inner(net))


    def test_raises_and_questions_that_are_under_way(self):
        net = tree(("hub", "store", 2), ("ann", "hub", 3))
        net.write("price", 5)
        net.deliver("store", "hub")
        net.change("hub", "price", 3)
        net.deliver("store", "hub")
        net.read("ann", "price", 0)
        net.deliver("ann", "hub")
        net.read("hub", "price", 2)
        first, second, third = net.copy(), net.copy(), net.copy()
        # Each goes another way; none may change what the others have.
        first.crash("ann")
        first.forget("ann")
        drain(first)
        self.assertEqual((first["hub"].allowance("price"), first.answer(1)), (3, None))
        second.write("price", 6)
        drain(second)
        self.assertEqual((second["hub"].allowance("price"), second.answer(1)), (3, (2, 6, "store")))
        third.read("store", "price", 0)
        drain(third)
        self.assertEqual((third["hub"].allowance("price"), third.answer(1)), (3, (1, 5, "store")))
        net.read("hub", "price", 0)
        self.assertEqual((net["hub"].allowance("price"), net.answer(1), net.answer(2)), (2, None, (1, 5, "hub")))
        self.assertIsNone(net.answer(3))
        drain(net)
        self.assertEqual((net["hub"].allowance("price"), net.answer(1)), (3, (1, 5, "store")))


class EqualTest(unittest.TestCase):
    def test_keys_and_histories_count(self):
        first, second = Net(["a", "b"]), Net(["a", "b"])
        self.assertTrue(first == second)
        self.assertFalse(first != second)
        self.assertFalse(first == Net(["b", "a"]))
        self.assertFalse(first == Net(["a"]))
        first.write("a", 1)
        self.assertFalse(first == second)
        self.assertTrue(first != second)
        second.write("a", 1)
        self.assertTrue(first == second)
        second.write("a", 1)
        first.write("a", 2)
        self.assertFalse(first == second)

    def test_other_histories_to_the_same_state_are_not_equal(self):
        first, second = tree(("north", "store", 2)), tree(("north", "store", 2))
        first.change("north", "price", 2)
        self.assertFalse(first == second)
        second.read("north", "price", 2)
        self.assertFalse(first == second)


class LookTest(unittest.TestCase):
    def test_numbers_and_waiting_values(self):
        net = tree(("north", "store", (1, 2)), keys=("price", "size"))
        for value in (5, 6, 7):
            net.write("price", value)
            net.write("size", -value)
        self.assertEqual((net.number("price"), net.number("size")), (1, 2))
        self.assertEqual((net.waiting("price"), net.waiting("size")), ([6, 7], [-7]))
        for obj in [*ODD, "north", "store", "pric"]:
            check_refused(self, net, UnknownKey, {"word": obj}, net.number, obj)
            check_refused(self, net, UnknownKey, {"word": obj}, net.waiting, obj)

    def test_ages(self):
        net = tree(("north", "store", (3, 3)), keys=("price", "size"))
        net.join("late", "store", {"price": 3, "size": 3})
        net.deliver("store", "late")
        for value in (5, 6, 7):
            net.write("price", value)
        net.deliver("store", "north")
        found = [net.age(name, "price") for name in ("store", "north", "late")]
        self.assertEqual(found, [0, 2, 3])
        self.assertEqual([net.age("north", "size"), net.age("store", "size")], [0, 0])
        for obj in [*ODD, "rome"]:
            check_refused(self, net, UnknownNode, {"node": obj}, net.age, obj, obj)
        for obj in [*ODD, "north"]:
            check_refused(self, net, UnknownKey, {"word": obj}, net.age, "late", obj)
        check_refused(self, net, NoCopy, {"word": "size"}, net.age, "late", "size")

    def test_nodes_by_name(self):
        net = tree(("north", "store", 2), ("south", "store", 2))
        net.crash("south")
        self.assertEqual([name in net for name in ("store", "north", "south", "price", "nort")],
                         [True, True, False, False, False])
        self.assertEqual((net["store"].name, net["north"].name, len(net)), ("store", "north", 2))
        for obj in [*ODD, "south", "rome", 0, 1]:
            self.assertIs(obj in net, False)
            check_refused(self, net, UnknownNode, {"node": obj}, net.__getitem__, obj)

    def test_a_net_is_not_iterated_over(self):
        with self.assertRaises(TypeError):
            iter(Net(["price"]))
        with self.assertRaises(TypeError):
            iter(Net(["price"])["store"])

    def test_limits_in_their_order(self):
        net = tree(("north", "store", 1))
        net.write("price", 0)
        for value in range(20):
            net.write("price", value)
        check_refused(self, net, InvalidValue, {"given": None}, net.write, "price", None)
        check_refused(self, net, LimitExceeded, {"limit": 20}, net.write, "price", 1)
        self.assertEqual(len(drain(net)), 42)


if __name__ == "__main__":
    unittest.main()
