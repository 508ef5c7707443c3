"""Point 11: joining, leaving, crashing, forgetting and recovering."""

import unittest

from slackcache.errors import (
    Busy, HasChildren, InvalidAllowance, InvalidName, LimitExceeded, NameTaken, NotCrashed, NotReady, TooLow,
    UnknownNode,
)
from slackcache.net import Net
from tests.helpers import ODD, check_refused, deliver_all, drain, tree


class JoinTest(unittest.TestCase):
    def test_copies_are_sent_in_the_order_of_the_keys(self):
        net = Net(["size", "price", "age"])
        net.write("price", 7)
        net.write("age", 1)
        net.write("price", 8)
        self.assertIsNone(net.join("north", "store", {"age": 3, "price": 2, "size": 1}))
        sent = [("copy", "size", 0, 0, 1), ("copy", "price", 2, 8, 2), ("copy", "age", 1, 1, 3)]
        self.assertEqual(net.messages("store", "north"), sent)
        entries = [net["store"].entry("north", key) for key in ("size", "price", "age")]
        self.assertEqual(entries, [(0, 1), (2, 2), (1, 3)])
        self.assertEqual(net.history[-1], ("join", "north", "store", (("size", 1), ("price", 2), ("age", 3))))
        self.assertEqual(deliver_all(net, "store", "north"), sent)
        north = net["north"]
        self.assertEqual([north[key] for key in net.key_names], [(0, 0), (2, 8), (1, 1)])
        self.assertEqual([north.told(key) for key in net.key_names], [0, 2, 1])
        self.assertEqual([north.bound(key) for key in net.key_names], [1, 2, 3])
        self.assertEqual(list(net.links()), [])

    def test_below_another_node_its_copies_are_sent(self):
        net = tree(("north", "store", 3))
        net.write("price", 5)
        net.deliver("store", "north")
        net.write("price", 6)
        net.join("oslo", "north", {"price": 4})
        self.assertEqual(net.messages("north", "oslo"), [("copy", "price", 1, 5, 4)])
        self.assertEqual(net["north"].entry("oslo", "price"), (1, 4))
        self.assertEqual((net["oslo"].parent, net["north"].children, net.names), ("north", ("oslo",),
                                                                                ("store", "north", "oslo")))

    def test_an_entry_counts_from_the_number_of_the_copy_not_from_what_was_told(self):
        net = tree(("hub", "store", 2), ("bob", "hub", 2))
        for value in (1, 2):
            net.write("price", value)
        deliver_all(net, "store", "hub")
        self.assertEqual(net["hub"].told("price"), 0)
        net.join("ann", "hub", {"price": 2})
        self.assertEqual(net["hub"].entry("ann", "price"), (2, 2))
        net.crash("bob")
        net.forget("bob")
        self.assertEqual(net.messages("hub", "store"), [("confirm", "price", 2)])

    def test_a_parent_must_have_copies_of_all_keys(self):
        net = Net(["price", "size"])
        net.join("north", "store", {"price": 2, "size": 2})
        good = {"price": 9, "size": 9}
        for _ in range(2):
            check_refused(self, net, NotReady, {"node": "north"}, net.join, "oslo", "north", good)
            low = {"price": 1, "size": 1}
            check_refused(self, net, NotReady, {"node": "north"}, net.join, "oslo", "north", low)
            net.deliver("store", "north")
        net.join("oslo", "north", good)
        self.assertEqual(net["north"].children, ("oslo",))

    def test_the_first_key_with_too_low_an_allowance(self):
        net = tree(("north", "store", (2, 5, 3)), keys=("a", "b", "c"))
        for slacks, least in (((1, 1, 1), 2), ((2, 4, 2), 5), ((2, 5, 2), 3), ((9, 1, 1), 5), ((99, 99, 1), 3)):
            given = dict(zip("cba", reversed(slacks)))
            check_refused(self, net, TooLow, {"least": least}, net.join, "oslo", "north", given)
        net.join("oslo", "north", {"a": 2, "b": 5, "c": 3})

    def test_what_the_parent_has_counts_not_what_it_was_granted(self):
        net = tree(("north", "store", 4))
        net.change("north", "price", 2)
        check_refused(self, net, TooLow, {"least": 4}, net.join, "oslo", "north", {"price": 3})
        drain(net)
        net.join("oslo", "north", {"price": 3})
        net.change("north", "price", 9)
        net.deliver("store", "north")
        net.join("rome", "north", {"price": 2})
        self.assertEqual(net["north"].children, ("oslo", "rome"))

    def test_wrong_allowances(self):
        net = Net(["price", "size"])
        wrong = [
            {}, {"price": 1}, {"size": 1}, {"price": 1, "size": 0}, {"price": 100, "size": 1}, {"price": 1, "size": -1},
            {"price": 1, "size": "1"}, {"price": 1, "size": None}, {"price": 1, "size": 1, "more": 1},
            {"price": 1, "more": 1}, {"price": 1, "size": 1.0}, {"price": 1, 1: 1}, {"price": [], "size": 1},
            [("price", 1), ("size", 1)], (("price", 1), ("size", 1)), "price", {"price", "size"},
        ]
        for given in wrong + ODD:
            check_refused(self, net, InvalidAllowance, {"given": given}, net.join, "north", "store", given)
        net.join("north", "store", {"price": 1, "size": 99})

    def test_errors_in_their_order(self):
        net = tree(("north", "store", 2))
        net.join("late", "store", {"price": 2})
        for obj in [*ODD, "Store", "abcdefghi"]:
            check_refused(self, net, InvalidName, {"given": obj}, net.join, obj, obj, obj)
        for name in ("store", "north", "late"):
            check_refused(self, net, NameTaken, {"node": name}, net.join, name, [], [])
        for obj in [*ODD, "rome", "new"]:
            check_refused(self, net, UnknownNode, {"node": obj}, net.join, "new", obj, obj)
        for letter in "abcdefghi":
            net.join("n" + letter, "store", {"price": 2})
        self.assertEqual(len(net), 12)
        check_refused(self, net, InvalidAllowance, {"given": []}, net.join, "new", "late", [])
        check_refused(self, net, LimitExceeded, {"limit": 12}, net.join, "new", "late", {"price": 1})
        net.leave("na")
        check_refused(self, net, NotReady, {"node": "late"}, net.join, "new", "late", {"price": 1})
        check_refused(self, net, TooLow, {"least": 2}, net.join, "new", "north", {"price": 1})
        net.join("new", "north", {"price": 2})


class LeaveTest(unittest.TestCase):
    def test_it_is_gone_at_once_and_its_entries_with_the_gone(self):
        net = tree(("north", "store", 1), ("south", "store", 5))
        for value in (1, 2, 3):
            net.write("price", value)
        net.deliver("store", "north")
        net.read("north", "price", 0)
        self.assertIsNone(net.leave("north"))
        self.assertNotIn("north", net)
        self.assertEqual((net.names, len(net)), (("store", "south"), 2))
        self.assertEqual((net["store"].children, net["store"].entry("north", "price")), (("north", "south"), (0, 1)))
        self.assertEqual(net.messages("store", "north"), [])
        sent = [("confirm", "price", 1), ("question", 1, "price", 0, 0), ("gone",)]
        self.assertEqual(net.messages("north", "store"), sent)
        self.assertIsNone(net.write("price", 4))
        # Its confirms still count.
        net.deliver("north", "store")
        self.assertEqual((net.number("price"), net["store"].entry("north", "price")), (2, (1, 1)))
        self.assertEqual(net.messages("store", "north"), [])
        net.deliver("north", "store")
        self.assertEqual(net.deliver("north", "store"), ("gone",))
        self.assertEqual((net["store"].children, net.number("price")), (("south",), 4))
        with self.assertRaises(UnknownNode):
            net["store"].entry("north", "price")

    def test_messages_on_the_link_to_it_are_lost_and_later_ones_too(self):
        net = tree(("north", "store", 5))
        net.write("price", 1)
        net.leave("north")
        net.write("price", 2)
        self.assertEqual(list(net.links()), [("north", "store")])
        self.assertEqual(net.messages("north", "store"), [("gone",)])

    def test_its_name_stays_taken_until_the_gone_arrives(self):
        net = tree(("north", "store", 5), ("south", "store", 5))
        net.leave("north")
        for parent in ("store", "south"):
            check_refused(self, net, NameTaken, {"node": "north"}, net.join, "north", parent, {"price": 5})
        net.deliver("north", "store")
        net.join("north", "south", {"price": 5})
        self.assertEqual((net.names, net["north"].parent), (("store", "south", "north"), "south"))

    def test_with_child_entries_it_cannot_leave(self):
        net = tree(("north", "store", 2), ("oslo", "north", 3), ("rome", "north", 3))
        check_refused(self, net, HasChildren, {"node": "north"}, net.leave, "north")
        net.leave("oslo")
        net.crash("rome")
        check_refused(self, net, HasChildren, {"node": "north"}, net.leave, "north")
        net.deliver("oslo", "north")
        check_refused(self, net, HasChildren, {"node": "north"}, net.leave, "north")
        net.forget("rome")
        net.leave("north")
        self.assertEqual(net.names, ("store",))

    def test_wrong_nodes(self):
        net = tree(("north", "store", 2), ("gone", "store", 2), ("crashed", "store", 2))
        net.leave("gone")
        net.crash("crashed")
        for call in (net.leave, net.crash):
            for obj in [*ODD, "store", "rome", "gone", "crashed"]:
                check_refused(self, net, UnknownNode, {"node": obj}, call, obj)

    def test_a_node_that_left_is_not_crashed(self):
        net = tree(("north", "store", 2))
        net.leave("north")
        for call in (net.forget, net.recover):
            check_refused(self, net, NotCrashed, {"node": "north"}, call, "north")

    def test_a_node_that_recovered_and_then_left_is_not_crashed(self):
        net = tree(("north", "store", 2))
        net.crash("north")
        net.recover("north")
        net.leave("north")
        for call in (net.forget, net.recover):
            check_refused(self, net, NotCrashed, {"node": "north"}, call, "north")
        drain(net)
        self.assertEqual((net.names, net["store"].children), (("store",), ()))

    def test_the_gone_lets_the_parent_agree_and_confirm_key_by_key(self):
        self.check_key_by_key(lambda net: net.leave("oslo"), lambda net: deliver_all(net, "oslo", "north"))

    def test_forgetting_lets_the_parent_agree_and_confirm_key_by_key(self):
        self.check_key_by_key(lambda net: net.crash("oslo"), lambda net: net.forget("oslo"))

    def check_key_by_key(self, go, end):
        keys = ("size", "price")
        net = tree(("north", "store", 1), ("oslo", "north", 2), keys=keys)
        for key in keys:
            net.write(key, 1)
        deliver_all(net, "store", "north")
        deliver_all(net, "north", "store")
        for key in keys:
            net.write(key, 2)
            net.change("north", key, 3)
        deliver_all(net, "store", "north")
        self.assertEqual(net.messages("north", "store"), [])
        go(net)
        self.assertEqual(net.messages("north", "store"), [])
        end(net)
        self.assertEqual(net.messages("north", "store"), [
            ("agree", "size", 3), ("confirm", "size", 2), ("agree", "price", 3), ("confirm", "price", 2),
        ])

    def test_a_raise_to_a_node_that_left_ends_with_the_gone(self):
        net = tree(("north", "store", 2))
        net.change("north", "price", 5)
        net.leave("north")
        drain(net)
        net.join("north", "store", {"price": 2})
        net.change("north", "price", 1)
        self.assertEqual(net["store"].entry("north", "price"), (0, 1))

    def test_the_agree_of_a_node_that_left_arrives(self):
        net = tree(("north", "store", 1))
        net.write("price", 1)
        net.write("price", 2)
        net.change("north", "price", 5)
        deliver_all(net, "store", "north")
        net.leave("north")
        net.deliver("north", "store")
        self.assertEqual(net.number("price"), 2)
        net.write("price", 3)
        self.assertEqual(net.deliver("north", "store"), ("agree", "price", 5))
        self.assertEqual((net["store"].entry("north", "price"), net.number("price")), ((1, 5), 3))


class CrashTest(unittest.TestCase):
    def test_it_crashes_with_all_nodes_below_it(self):
        net = tree(("a", "store", 1), ("b", "a", 2), ("c", "b", 3), ("d", "a", 4), ("e", "store", 5), ("f", "e", 6))
        self.assertIsNone(net.crash("a"))
        self.assertEqual(net.names, ("store", "e", "f"))
        self.assertEqual(net["store"].children, ("a", "e"))
        self.assertEqual(net["store"].entry("a", "price"), (0, 1))
        for name in "bcd":
            check_refused(self, net, NotCrashed, {"node": name}, net.forget, name)
            check_refused(self, net, NotCrashed, {"node": name}, net.recover, name)
            net.join(name, "f", {"price": 9})

    def test_messages_of_all_their_links_are_lost_and_only_those(self):
        net = tree(("a", "store", 2), ("b", "a", 20), ("c", "b", 30), ("e", "store", 9), ("f", "e", 20))
        for value in range(6):
            net.write("price", value)
        net.deliver("store", "a")
        net.deliver("a", "b")
        net.deliver("store", "e")
        net.deliver("e", "f")
        net.read("c", "price", 0)
        expected = [
            ("a", "store"), ("b", "a"), ("b", "c"), ("c", "b"), ("e", "store"), ("f", "e"), ("store", "a"),
            ("store", "e"),
        ]
        self.assertEqual(list(net.links()), expected)
        kept = {link: net.messages(*link) for link in (("e", "store"), ("f", "e"), ("store", "e"))}
        net.crash("a")
        self.assertEqual({link: net.messages(*link) for link in net.links()}, kept)

    def test_a_gone_on_its_way_to_a_crashed_node_is_lost_and_the_name_is_free(self):
        net = tree(("a", "store", 1), ("b", "a", 2))
        net.leave("b")
        self.assertEqual(list(net.links()), [("b", "a")])
        net.crash("a")
        self.assertEqual(list(net.links()), [])
        net.join("b", "store", {"price": 2})
        check_refused(self, net, NameTaken, {"node": "a"}, net.join, "a", "store", {"price": 2})

    def test_an_entry_of_a_crashed_node_goes_with_its_parent(self):
        net = tree(("a", "store", 1), ("b", "a", 2))
        net.crash("b")
        check_refused(self, net, NameTaken, {"node": "b"}, net.join, "b", "store", {"price": 2})
        net.crash("a")
        for call in (net.forget, net.recover):
            check_refused(self, net, NotCrashed, {"node": "b"}, call, "b")
        net.join("b", "store", {"price": 2})
        net.recover("a")
        self.assertEqual(net["a"].children, ())

    def test_writes_wait_for_a_crashed_node_until_it_is_forgotten(self):
        net = tree(("north", "store", 2))
        net.crash("north")
        self.assertEqual([net.write("price", value) for value in (1, 2, 3)], [1, 2, None])
        self.assertEqual(list(net.links()), [])
        self.assertIsNone(net.forget("north"))
        self.assertEqual((net.number("price"), net.waiting("price"), net["store"].children), (3, [], ()))
        net.join("north", "store", {"price": 1})

    def test_forget_and_recover_of_other_objects(self):
        net = tree(("north", "store", 2), ("south", "store", 2))
        net.crash("south")
        for call in (net.forget, net.recover):
            for obj in [*ODD, "store", "north", "rome"]:
                check_refused(self, net, NotCrashed, {"node": obj}, call, obj)
        net.recover("south")
        for call in (net.forget, net.recover):
            check_refused(self, net, NotCrashed, {"node": "south"}, call, "south")
        net.crash("south")
        net.forget("south")
        for call in (net.forget, net.recover):
            check_refused(self, net, NotCrashed, {"node": "south"}, call, "south")


class RecoverTest(unittest.TestCase):
    def test_it_is_there_again_without_copies_and_children(self):
        net = tree(("a", "store", (2, 3)), ("b", "a", (4, 4)), ("c", "store", (9, 9)), keys=("size", "price"))
        net.write("price", 5)
        net.crash("a")
        net.write("size", 6)
        self.assertIsNone(net.recover("a"))
        a = net["a"]
        self.assertEqual((net.names, a.parent, a.children, len(a)), (("store", "c", "a"), "store", (), 0))
        sent = [("copy", "size", 1, 6, 2), ("copy", "price", 1, 5, 3)]
        self.assertEqual(net.messages("store", "a"), sent)
        entries = [net["store"].entry("a", key) for key in ("size", "price")]
        self.assertEqual(entries, [(1, 2), (1, 3)])
        check_refused(self, net, NotReady, {"node": "a"}, net.join, "b", "a", {"size": 9, "price": 9})
        deliver_all(net, "store", "a")
        self.assertEqual((a["size"], a.told("size"), a.allowance("size"), a.bound("size")), ((1, 6), 1, 2, 2))
        self.assertEqual(net.messages("a", "store"), [])
        self.assertEqual(net.history[-4:], (
            ("write", "size", 6), ("recover", "a"), ("deliver", "store", "a"), ("deliver", "store", "a"),
        ))

    def test_children_stay_in_the_order_in_which_they_joined(self):
        net = tree(("c", "store", 1), ("b", "store", 1), ("a", "store", 1))
        net.crash("c")
        net.recover("c")
        self.assertEqual((net["store"].children, net.names), (("c", "b", "a"), ("store", "b", "a", "c")))
        net.crash("b")
        self.assertEqual(net["store"].children, ("c", "b", "a"))
        net.forget("b")
        net.join("b", "store", {"price": 1})
        self.assertEqual((net["store"].children, net.names), (("c", "a", "b"), ("store", "a", "c", "b")))
        net.leave("a")
        self.assertEqual(net["store"].children, ("c", "a", "b"))
        drain(net)
        net.join("a", "store", {"price": 1})
        self.assertEqual(net["store"].children, ("c", "b", "a"))

    def test_it_gets_the_allowance_that_is_granted(self):
        net = tree(("north", "store", 5))
        net.change("north", "price", 2)
        net.crash("north")
        net.recover("north")
        self.assertEqual(net.messages("store", "north"), [("copy", "price", 0, 0, 2)])
        drain(net)
        self.assertEqual(net["north"].allowance("price"), 2)

    def test_a_raise_is_over_when_the_node_recovers(self):
        for delivered in (0, 1):
            net = tree(("north", "store", (2, 2)), keys=("price", "size"))
            net.change("north", "price", 5)
            net.change("north", "size", 6)
            for _ in range(delivered):
                net.deliver("store", "north")
            net.crash("north")
            net.recover("north")
            self.assertEqual(net["store"].entry("north", "price"), (0, 2))
            drain(net)
            self.assertEqual((net["north"].allowance("price"), net["north"].allowance("size")), (2, 2))
            net.change("north", "price", 3)
            net.change("north", "size", 1)
            drain(net)
            self.assertEqual((net["north"].allowance("price"), net["north"].allowance("size")), (3, 1))

    def test_a_raise_that_has_arrived_at_the_parent_stays(self):
        net = tree(("north", "store", 2))
        net.change("north", "price", 5)
        drain(net)
        net.crash("north")
        net.recover("north")
        self.assertEqual(net.messages("store", "north"), [("copy", "price", 0, 0, 5)])

    def test_what_its_parent_was_asked_is_not_over(self):
        net = tree(("hub", "store", 2), ("ann", "hub", 3))
        for value in (1, 2):
            net.write("price", value)
        net.change("hub", "price", 3)
        deliver_all(net, "store", "hub")
        # told 1 + 3 - 0 is more than the 3 that are granted to ann.
        self.assertEqual((net["hub"].told("price"), net["hub"].allowance("price")), (1, 2))
        net.crash("ann")
        check_refused(self, net, Busy, {"node": "hub"}, net.change, "hub", "price", 4)
        net.recover("ann")
        self.assertEqual((net["hub"].told("price"), net["hub"].allowance("price")), (2, 3))
        check_refused(self, net, Busy, {"node": "hub"}, net.change, "hub", "price", 4)
        drain(net)
        self.assertEqual(net["store"].entry("hub", "price"), (2, 3))

    def test_the_parent_agrees_and_confirms_key_by_key(self):
        keys = ("size", "price")
        net = tree(("hub", "store", 2), ("ann", "hub", 5), keys=keys)
        for key in keys:
            for value in (1, 2, 3, 4):
                net.write(key, value)
        deliver_all(net, "store", "hub")
        deliver_all(net, "hub", "store")
        for key in keys:
            net.change("hub", key, 4)
        deliver_all(net, "store", "hub")
        self.assertEqual([message[0] for message in deliver_all(net, "hub", "store")], ["confirm", "confirm"])
        self.assertEqual([(net["hub"][key], net["hub"].told(key)) for key in keys], [((4, 4), 3)] * 2)
        net.crash("ann")
        net.recover("ann")
        self.assertEqual(net.messages("hub", "store"), [
            ("agree", "size", 4), ("confirm", "size", 4), ("agree", "price", 4), ("confirm", "price", 4),
        ])
        self.assertEqual(net.messages("hub", "ann"), [("copy", "size", 4, 4, 5), ("copy", "price", 4, 4, 5)])

    def test_twelve_nodes(self):
        net = Net(["price"])
        for letter in "abcdefghijk":
            net.join(letter, "store", {"price": 1})
        net.crash("a")
        net.join("more", "store", {"price": 1})
        check_refused(self, net, LimitExceeded, {"limit": 12}, net.recover, "a")
        check_refused(self, net, NotCrashed, {"node": "b"}, net.recover, "b")
        check_refused(self, net, NameTaken, {"node": "a"}, net.join, "a", "store", {"price": 1})
        net.leave("b")
        net.recover("a")
        self.assertEqual((len(net), net.names[-2:]), (12, ("more", "a")))
        net.crash("c")
        net.join("most", "store", {"price": 1})
        net.forget("c")
        self.assertEqual(len(net), 12)

    def test_it_may_crash_again_before_its_copies_arrive(self):
        net = tree(("north", "store", 1))
        net.write("price", 1)
        net.write("price", 2)
        net.crash("north")
        net.recover("north")
        self.assertEqual((net.number("price"), net.waiting("price")), (2, []))
        net.crash("north")
        self.assertEqual(net.messages("store", "north"), [])
        net.recover("north")
        self.assertEqual(net.messages("store", "north"), [("copy", "price", 2, 2, 1)])
        self.assertEqual(net["store"].entry("north", "price"), (2, 1))


if __name__ == "__main__":
    unittest.main()
