"""Point 10: allowances that are lowered and raised."""

import unittest

from slackcache.errors import Busy, InvalidAllowance, TooLow, UnknownKey, UnknownNode
from tests.helpers import ODD, check_refused, deliver_all, drain, tree


class LowerTest(unittest.TestCase):
    def test_the_grant_is_less_at_once_and_the_node_obeys_later(self):
        net = tree(("north", "store", 4))
        self.assertIsNone(net.change("north", "price", 2))
        self.assertEqual(net["store"].entry("north", "price"), (0, 2))
        self.assertEqual(net.messages("store", "north"), [("lower", "price", 2)])
        self.assertEqual((net["north"].allowance("price"), net["north"].bound("price")), (4, 4))
        self.assertEqual([net.write("price", value) for value in (1, 2, 3)], [1, 2, None])
        net.deliver("store", "north")
        self.assertEqual((net["north"].allowance("price"), net["north"].bound("price")), (2, 2))
        self.assertEqual(net.messages("north", "store"), [])
        self.assertEqual(net.history[2:], (
            ("change", "north", "price", 2), ("write", "price", 1), ("write", "price", 2), ("write", "price", 3),
            ("deliver", "store", "north"),
        ))

    def test_the_least_by_what_the_store_has_not_heard(self):
        net = tree(("north", "store", 5))
        for value in (1, 2, 3):
            net.write("price", value)
        check_refused(self, net, TooLow, {"least": 3}, net.change, "north", "price", 2)
        check_refused(self, net, TooLow, {"least": 3}, net.change, "north", "price", 1)
        net.deliver("store", "north")
        check_refused(self, net, TooLow, {"least": 3}, net.change, "north", "price", 2)
        net.deliver("north", "store")
        check_refused(self, net, TooLow, {"least": 2}, net.change, "north", "price", 1)
        net.change("north", "price", 2)
        self.assertEqual(net["store"].entry("north", "price"), (1, 2))
        self.assertIsNone(net.write("price", 4))
        drain(net)
        self.assertEqual((net.number("price"), net["north"].allowance("price")), (4, 2))

    def test_at_the_least_allowance_no_write_is_left(self):
        net = tree(("north", "store", 9))
        for value in (1, 2, 3):
            net.write("price", value)
        net.change("north", "price", 3)
        self.assertIsNone(net.write("price", 4))
        self.assertEqual(net["store"].entry("north", "price"), (0, 3))

    def test_one_is_the_least_of_all(self):
        net = tree(("north", "store", 5))
        for obj in [*ODD, "2", 0, -1, 100]:
            check_refused(self, net, InvalidAllowance, {"given": obj}, net.change, "north", "price", obj)
        net.change("north", "price", 1)
        self.assertEqual(net["store"].entry("north", "price"), (0, 1))
        drain(net)
        net.change("north", "price", 99)
        drain(net)
        self.assertEqual(net["north"].allowance("price"), 99)

    def test_the_allowance_of_the_parent_is_the_least(self):
        net = tree(("hub", "store", 3), ("ann", "hub", 7))
        check_refused(self, net, TooLow, {"least": 3}, net.change, "ann", "price", 2)
        net.change("ann", "price", 3)
        self.assertEqual(net["hub"].entry("ann", "price"), (0, 3))
        # The hub may have less as soon as it obeys, not before.
        net.change("hub", "price", 2)
        check_refused(self, net, TooLow, {"least": 3}, net.change, "ann", "price", 2)
        net.deliver("store", "hub")
        net.change("ann", "price", 2)
        self.assertEqual(net.messages("hub", "ann"), [("lower", "price", 3), ("lower", "price", 2)])

    def test_the_least_by_what_the_parent_told_and_has_not_heard(self):
        net = tree(("hub", "store", 2), ("ann", "hub", 6))
        for value in (1, 2):
            net.write("price", value)
        deliver_all(net, "store", "hub")
        self.assertEqual(net["hub"].told("price"), 2)
        check_refused(self, net, TooLow, {"least": 4}, net.change, "ann", "price", 3)
        net.deliver("hub", "ann")
        check_refused(self, net, TooLow, {"least": 4}, net.change, "ann", "price", 3)
        net.deliver("ann", "hub")
        check_refused(self, net, TooLow, {"least": 3}, net.change, "ann", "price", 2)
        net.change("ann", "price", 3)
        self.assertEqual(net["hub"].entry("ann", "price"), (1, 3))
        drain(net)
        check_refused(self, net, TooLow, {"least": 2}, net.change, "ann", "price", 1)

    def test_a_node_that_obeys_may_tell_more(self):
        net = tree(("hub", "store", 4), ("ann", "hub", 5))
        for value in (1, 2, 3):
            net.write("price", value)
        deliver_all(net, "store", "hub")
        # 5 + 0 - 4
        self.assertEqual((net["hub"].told("price"), net["hub"].bound("price")), (1, 2))
        deliver_all(net, "hub", "store")
        check_refused(self, net, TooLow, {"least": 2}, net.change, "hub", "price", 1)
        net.change("hub", "price", 2)
        net.deliver("store", "hub")
        # 5 + 0 - 2
        self.assertEqual((net["hub"].told("price"), net["hub"].bound("price")), (3, 2))
        self.assertEqual(net.messages("hub", "store"), [("confirm", "price", 3)])

    def test_several_lowers_are_obeyed_in_their_order(self):
        net = tree(("north", "store", 9))
        net.change("north", "price", 7)
        net.change("north", "price", 4)
        self.assertEqual(net["store"].entry("north", "price"), (0, 4))
        net.deliver("store", "north")
        self.assertEqual(net["north"].allowance("price"), 7)
        net.deliver("store", "north")
        self.assertEqual(net["north"].allowance("price"), 4)


class SameTest(unittest.TestCase):
    def test_the_same_allowance_changes_nothing_but_is_noted(self):
        net = tree(("north", "store", 3), ("oslo", "north", 4))
        self.assertIsNone(net.change("north", "price", 3))
        self.assertIsNone(net.change("oslo", "price", 4))
        self.assertEqual(list(net.links()), [])
        self.assertEqual(net["store"].entry("north", "price"), (0, 3))
        self.assertEqual(net.history[-2:], (("change", "north", "price", 3), ("change", "oslo", "price", 4)))
        net.change("north", "price", 2)
        net.change("north", "price", 2)
        self.assertEqual(net.messages("store", "north"), [("lower", "price", 2)])
        # What the entry grants counts, not what the node has.
        self.assertEqual(net["north"].allowance("price"), 3)
        net.change("north", "price", 3)
        self.assertEqual(net.messages("store", "north"), [("lower", "price", 2), ("raise", "price", 3)])


class RaiseTest(unittest.TestCase):
    def test_a_node_without_children_agrees_when_it_is_asked(self):
        net = tree(("north", "store", 2))
        for value in (1, 2, 3, 4):
            net.write("price", value)
        net.change("north", "price", 3)
        self.assertEqual(net["store"].entry("north", "price"), (0, 2))
        self.assertEqual(net.messages("store", "north")[2:], [("raise", "price", 3)])
        deliver_all(net, "store", "north")
        self.assertEqual((net["north"].allowance("price"), net["north"].bound("price")), (3, 3))
        self.assertEqual(net["store"].entry("north", "price"), (0, 2))
        expected = [("confirm", "price", 1), ("confirm", "price", 2), ("agree", "price", 3)]
        self.assertEqual(net.messages("north", "store"), expected)
        net.deliver("north", "store")
        net.deliver("north", "store")
        self.assertEqual((net["store"].entry("north", "price"), net.number("price")), ((2, 2), 4))
        self.assertIsNone(net.write("price", 5))
        net.deliver("north", "store")
        self.assertEqual((net["store"].entry("north", "price"), net.number("price")), ((2, 3), 5))

    def test_busy_until_the_agree_has_arrived(self):
        net = tree(("north", "store", (2, 2)), ("south", "store", (2, 2)), keys=("price", "size"))
        net.change("north", "price", 5)
        for step in range(3):
            for allowance in (1, 2, 3, 5, 9):
                check_refused(self, net, Busy, {"node": "north"}, net.change, "north", "price", allowance)
            check_refused(self, net, InvalidAllowance, {"given": 0}, net.change, "north", "price", 0)
            if step < 2:
                net.deliver(*[("store", "north"), ("north", "store")][step])
            if step == 1:
                break
        net.change("north", "price", 4)
        self.assertEqual(net["store"].entry("north", "price"), (0, 4))

    def test_other_keys_and_other_nodes_are_not_busy(self):
        net = tree(("north", "store", (2, 2)), ("south", "store", (2, 2)), keys=("price", "size"))
        net.change("north", "price", 5)
        net.change("north", "size", 1)
        net.change("south", "price", 1)
        self.assertEqual(net.messages("store", "north"), [("raise", "price", 5), ("lower", "size", 1)])
        self.assertEqual(net.messages("store", "south"), [("lower", "price", 1)])

    def test_a_node_with_children_agrees_when_their_grants_are_great_enough(self):
        net = tree(("hub", "store", 2), ("ann", "hub", 3), ("bob", "hub", 5))
        net.change("hub", "price", 5)
        net.deliver("store", "hub")
        self.assertEqual(net.messages("hub", "store"), [])
        self.assertEqual(net["hub"].allowance("price"), 2)
        net.change("ann", "price", 4)
        deliver_all(net, "hub", "ann")
        net.deliver("ann", "hub")
        self.assertEqual((net["hub"].entry("ann", "price"), net["hub"].allowance("price")), ((0, 4), 2))
        net.change("ann", "price", 5)
        net.deliver("hub", "ann")
        self.assertEqual((net["ann"].allowance("price"), net["hub"].allowance("price")), (5, 2))
        net.deliver("ann", "hub")
        self.assertEqual((net["hub"].entry("ann", "price"), net["hub"].allowance("price")), ((0, 5), 5))
        self.assertEqual(net.messages("hub", "store"), [("agree", "price", 5)])
        check_refused(self, net, Busy, {"node": "hub"}, net.change, "hub", "price", 4)
        net.deliver("hub", "store")
        self.assertEqual(net["store"].entry("hub", "price"), (0, 5))

    def test_a_node_agrees_when_its_children_have_confirmed_enough(self):
        net = tree(("hub", "store", 2), ("ann", "hub", 4))
        for value in (1, 2):
            net.write("price", value)
        deliver_all(net, "store", "hub")
        self.assertEqual(net["hub"].told("price"), 2)
        net.change("hub", "price", 4)
        net.deliver("store", "hub")
        # told 2 + 4 - confirmed must be at most 4.
        self.assertEqual([message[0] for message in net.messages("hub", "store")], ["confirm", "confirm"])
        deliver_all(net, "hub", "ann")
        net.deliver("ann", "hub")
        self.assertEqual(net["hub"].allowance("price"), 2)
        net.deliver("ann", "hub")
        self.assertEqual(net["hub"].allowance("price"), 4)
        self.assertEqual(net.messages("hub", "store")[2:], [("agree", "price", 4)])

    def test_both_parts_of_the_condition_at_their_edges(self):
        for granted, wanted, agrees in ((4, 3, False), (5, 3, True), (5, 4, False), (6, 4, True), (9, 7, True)):
            net = tree(("hub", "store", 2), ("ann", "hub", granted))
            for value in (1, 2):
                net.write("price", value)
            deliver_all(net, "store", "hub")
            net.change("hub", "price", wanted)
            net.deliver("store", "hub")
            self.assertEqual(net["hub"].allowance("price"), wanted if agrees else 2, (granted, wanted))

    def test_no_grant_of_a_child_may_be_less_though_it_confirmed_much(self):
        for granted, agrees in ((3, False), (4, True)):
            net = tree(("hub", "store", 2), ("bob", "hub", 4))
            for value in (1, 2, 3, 4):
                net.write("price", value)
            deliver_all(net, "store", "hub")
            deliver_all(net, "hub", "store")
            deliver_all(net, "store", "hub")
            self.assertEqual((net["hub"]["price"], net["hub"].told("price")), ((4, 4), 2))
            net.join("ann", "hub", {"price": granted})
            self.assertEqual(net["hub"].entry("ann", "price"), (4, granted))
            net.change("hub", "price", 4)
            net.deliver("store", "hub")
            self.assertEqual(net["hub"].allowance("price"), 2)
            net.crash("bob")
            net.forget("bob")
            # told 2 + 4 - 4 is little, but ann must not have less than hub.
            self.assertEqual(net["hub"].allowance("price"), 4 if agrees else 2)
            self.assertEqual(net["hub"].told("price"), 4)

    def test_the_agree_goes_before_the_confirm(self):
        net = tree(("hub", "store", 2), ("ann", "hub", 5))
        net.change("ann", "price", 7)
        net.deliver("hub", "ann")
        for value in (1, 2):
            net.write("price", value)
        deliver_all(net, "store", "hub")
        deliver_all(net, "hub", "store")
        for value in (3, 4):
            net.write("price", value)
        net.change("hub", "price", 4)
        deliver_all(net, "store", "hub")
        hub = net["hub"]
        self.assertEqual((hub["price"], hub.told("price"), hub.allowance("price")), ((4, 4), 3, 2))
        self.assertEqual(net.messages("hub", "store"), [("confirm", "price", 3)])
        self.assertEqual(net.deliver("ann", "hub"), ("agree", "price", 7))
        # If it had told 4 first, it could not agree: 4 + 4 - 0 > 7.
        self.assertEqual((hub.told("price"), hub.allowance("price"), hub.bound("price")), (3, 4, 3))
        self.assertEqual(net.messages("hub", "store"), [("confirm", "price", 3), ("agree", "price", 4)])
        deliver_all(net, "hub", "store")
        self.assertEqual(net["store"].entry("hub", "price"), (3, 4))

    def test_a_node_that_was_not_asked_does_not_agree(self):
        net = tree(("hub", "store", 2), ("ann", "hub", 9))
        net.write("price", 5)
        self.assertNotIn("agree", [message[0] for message in drain(net)])
        self.assertEqual(net["hub"].allowance("price"), 2)
        net.change("hub", "price", 3)
        self.assertEqual([message[0] for message in drain(net)], ["raise", "agree"])
        net.write("price", 5)
        self.assertNotIn("agree", [message[0] for message in drain(net)])

    def test_changes_down_a_chain(self):
        net = tree(("x", "store", 1), ("y", "x", 2), ("z", "y", 3))
        net.change("x", "price", 3)
        net.deliver("store", "x")
        net.change("y", "price", 3)
        self.assertEqual(net.messages("x", "y"), [("raise", "price", 3)])
        net.deliver("x", "y")
        self.assertEqual(net.messages("y", "x"), [("agree", "price", 3)])
        net.deliver("y", "x")
        self.assertEqual(net.messages("x", "store"), [("agree", "price", 3)])
        net.deliver("x", "store")
        self.assertEqual([net[name].allowance("price") for name in "xyz"], [3, 3, 3])
        check_refused(self, net, TooLow, {"least": 3}, net.change, "z", "price", 2)
        net.change("x", "price", 1)
        net.deliver("store", "x")
        net.change("y", "price", 1)
        net.deliver("x", "y")
        net.change("z", "price", 1)
        drain(net)
        self.assertEqual([net[name].allowance("price") for name in "xyz"], [1, 1, 1])

    def test_a_lower_after_a_raise_and_a_raise_after_a_lower(self):
        net = tree(("north", "store", 3))
        net.change("north", "price", 1)
        net.change("north", "price", 6)
        self.assertEqual(net.messages("store", "north"), [("lower", "price", 1), ("raise", "price", 6)])
        self.assertEqual(net["store"].entry("north", "price"), (0, 1))
        check_refused(self, net, Busy, {"node": "north"}, net.change, "north", "price", 1)
        drain(net)
        self.assertEqual((net["north"].allowance("price"), net["store"].entry("north", "price")), (6, (0, 6)))
        net.change("north", "price", 2)
        drain(net)
        self.assertEqual((net["north"].allowance("price"), net["store"].entry("north", "price")), (2, (0, 2)))

    def test_a_change_for_a_node_whose_copy_has_not_arrived(self):
        net = tree(("north", "store", 3), drained=False)
        net.change("north", "price", 2)
        net.change("north", "price", 4)
        sent = [("copy", "price", 0, 0, 3), ("lower", "price", 2), ("raise", "price", 4)]
        self.assertEqual(net.messages("store", "north"), sent)
        found = []
        for _ in sent:
            net.deliver("store", "north")
            found.append(net["north"].allowance("price"))
        self.assertEqual(found, [3, 2, 4])


class RefusedTest(unittest.TestCase):
    def test_errors_in_their_order(self):
        net = tree(("hub", "store", 3), ("ann", "hub", 5))
        for obj in [*ODD, "store", "rome", "hu"]:
            check_refused(self, net, UnknownNode, {"node": obj}, net.change, obj, obj, obj)
        for obj in [*ODD, "size", "hub"]:
            check_refused(self, net, UnknownKey, {"word": obj}, net.change, "ann", obj, obj)
        net.change("ann", "price", 6)
        for obj in [*ODD, 0, 100, "1"]:
            check_refused(self, net, InvalidAllowance, {"given": obj}, net.change, "ann", "price", obj)
        for allowance in (1, 6, 99):
            check_refused(self, net, Busy, {"node": "ann"}, net.change, "ann", "price", allowance)
        drain(net)
        check_refused(self, net, TooLow, {"least": 3}, net.change, "ann", "price", 1)
        net.leave("ann")
        check_refused(self, net, UnknownNode, {"node": "ann"}, net.change, "ann", "price", 7)
        net.crash("hub")
        check_refused(self, net, UnknownNode, {"node": "hub"}, net.change, "hub", "price", 7)


if __name__ == "__main__":
    unittest.main()
