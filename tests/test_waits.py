"""Points 17 and 18: what holds up a write, what frees it, settled nets and sharp histories."""

import itertools
import unittest

from slackcache.errors import NoCopy, NothingWaits, UnknownKey, UnknownNode, Unsettled
from slackcache.explorer import shortest
from slackcache.net import Net
from slackcache.waits import freeing, frees, is_settled, sharp, waits
from tests.helpers import ODD, check_raised, check_refused, deliver_all, drain, tree


def fill(net, key="price"):
    """Write until a write waits."""
    while net.write(key, 5) is not None:
        pass
    return net


def check_freeing(case, net, key="price"):
    """Check that the links free the write, and that none of them can be left out."""
    before = net.copy()
    links = freeing(net, key)
    case.assertIsInstance(links, list)
    case.assertTrue(frees(net, key, links))
    for at in range(len(links)):
        case.assertFalse(frees(net, key, links[:at] + links[at + 1:]), (links, at))
    case.assertEqual(net, before)
    for link in links:
        net.deliver(*link)
    case.assertLess(len(net.waiting(key)), len(before.waiting(key)))
    return links


def chain(*slacks):
    """A drained chain of nodes with these allowances."""
    names = ["north", "oslo", "rome", "lima"]
    above = ["store"] + names
    return tree(*[(names[at], above[at], slack) for at, slack in enumerate(slacks)])


class ReasonTest(unittest.TestCase):
    def test_confirm(self):
        net = fill(chain(1))
        net.deliver("store", "north")
        self.assertEqual(list(waits(net, "price")), [("north", 1, "confirm")])

    def test_a_confirm_of_a_lesser_number_is_no_reason(self):
        # Each may lack three writes, so the fifth one needs a confirm of 2.
        net = tree(("north", "store", 3), ("south", "store", 3))
        net.write("price", 1)
        net.deliver("store", "north")
        deliver_all(net, "store", "south")
        net.deliver("south", "store")
        fill(net)
        self.assertEqual(net.messages("north", "store"), [("confirm", "price", 1)])
        self.assertEqual(list(waits(net, "price")), [("north", 1, "confirm")])
        net.deliver("north", "store")
        self.assertEqual(net.number("price"), 4)
        self.assertEqual(net.waiting("price"), [])
        fill(net)
        self.assertEqual(list(waits(net, "price")), [("north", 2, "update"), ("south", 2, "update")])
        net.crash("south")
        net.forget("south")
        net.deliver("store", "north")
        self.assertEqual(list(waits(net, "price")), [("north", 2, "confirm")])

    def test_a_confirm_for_another_key(self):
        net = tree(("north", "store", (1, 1)), keys=("price", "size"))
        net.write("size", 1)
        fill(net)
        net.deliver("store", "north")
        self.assertEqual(net.messages("north", "store"), [("confirm", "size", 1)])
        self.assertEqual(list(waits(net, "price")), [("north", 1, "update")])

    def test_crashed(self):
        net = fill(chain(1))
        net.deliver("store", "north")
        net.crash("north")
        self.assertEqual(list(waits(net, "price")), [("north", 1, "crashed")])
        self.assertIsNone(freeing(net, "price"))

    def test_gone(self):
        net = fill(chain(1))
        net.leave("north")
        self.assertEqual(list(waits(net, "price")), [("north", 1, "gone")])
        self.assertEqual(check_freeing(self, net), [("north", "store")])

    def test_a_confirm_of_a_node_that_has_left_comes_first(self):
        net = fill(chain(1))
        net.deliver("store", "north")
        net.leave("north")
        self.assertEqual(list(waits(net, "price")), [("north", 1, "confirm")])
        self.assertEqual(check_freeing(self, net), [("north", "store")])

    def test_update_of_a_node_without_a_copy(self):
        net = Net(["price"])
        net.join("north", "store", {"price": 1})
        fill(net)
        self.assertEqual(list(waits(net, "price")), [("north", 1, "update")])
        self.assertEqual(check_freeing(self, net), [("store", "north")] * 2 + [("north", "store")])

    def test_a_greater_allowance_below_is_no_hindrance(self):
        net = fill(chain(2, 3, 4))
        self.assertEqual(list(waits(net, "price")), [("north", 1, "update")])
        net.deliver("store", "north")
        # North can tell 1 at once: it would lack a confirm of 1 + 2 - 3 from oslo.
        self.assertEqual(list(waits(net, "price")), [("north", 1, "confirm")])

    def test_below_with_the_numbers_that_each_child_lacks(self):
        net = fill(chain(2, 2, 2))
        deliver_all(net, "store", "north")
        self.assertEqual(list(waits(net, "price")), [("north", 1, "below"), ("oslo", 1, "update")])
        deliver_all(net, "north", "oslo")
        self.assertEqual(
            list(waits(net, "price")), [("north", 1, "below"), ("oslo", 1, "below"), ("rome", 1, "update")]
        )
        deliver_all(net, "oslo", "rome")
        self.assertEqual(
            list(waits(net, "price")), [("north", 1, "below"), ("oslo", 1, "below"), ("rome", 1, "confirm")]
        )
        net.deliver("rome", "oslo")
        self.assertEqual(list(waits(net, "price")), [("north", 1, "below"), ("oslo", 1, "confirm")])

    def test_only_children_that_lack_something_have_a_row(self):
        net = fill(tree(("north", "store", 2), ("oslo", "north", 3), ("rome", "north", 2)))
        deliver_all(net, "store", "north")
        # Of at least 1 + 2 - 3 from oslo, which it has confirmed, and of 1 + 2 - 2 from rome.
        self.assertEqual(list(waits(net, "price")), [("north", 1, "below"), ("rome", 1, "update")])

    def test_numbers_of_unlike_allowances(self):
        net = fill(tree(("north", "store", 2), ("oslo", "north", 4), ("rome", "oslo", 5)))
        net.change("oslo", "price", 3)
        deliver_all(net, "store", "north")
        deliver_all(net, "north", "store")
        fill(net)
        self.assertEqual(net.number("price"), 3)
        deliver_all(net, "store", "north")
        # North lacks 2 + 2 - 3 from oslo, which still has 4 and lacks 1 + 4 - 5 from rome.
        self.assertEqual(list(waits(net, "price")), [("north", 2, "below"), ("oslo", 1, "update")])

    def test_several_children_in_the_order_of_the_entries(self):
        net = tree(("south", "store", 1), ("north", "store", 1), ("delhi", "north", 1), ("oslo", "north", 1),
                   ("rome", "store", 5), ("lima", "store", 1))
        fill(net)
        deliver_all(net, "store", "north")
        deliver_all(net, "north", "oslo")
        net.crash("delhi")
        net.leave("lima")
        deliver_all(net, "store", "south")
        self.assertEqual(
            list(waits(net, "price")),
            [
                ("south", 1, "confirm"), ("north", 1, "below"), ("delhi", 1, "crashed"), ("oslo", 1, "confirm"),
                ("lima", 1, "gone"),
            ],
        )

    def test_children_that_left_or_crashed_at_depth(self):
        for verb, reason in (("leave", "gone"), ("crash", "crashed")):
            net = fill(chain(2, 2, 2))
            deliver_all(net, "store", "north")
            deliver_all(net, "north", "oslo")
            net.perform((verb, "rome"))
            self.assertEqual(
                list(waits(net, "price")), [("north", 1, "below"), ("oslo", 1, "below"), ("rome", 1, reason)]
            )
            net = fill(chain(2, 2))
            deliver_all(net, "store", "north")
            net.perform((verb, "oslo"))
            self.assertEqual(list(waits(net, "price")), [("north", 1, "below"), ("oslo", 1, reason)])

    def test_errors_only_for_the_first_row(self):
        net = chain(1)
        for key in ODD + ["size"]:
            rows = waits(net, key)
            check_refused(self, net, UnknownKey, {"word": key}, next, rows)
            for call in (freeing, lambda net, key: frees(net, key, [])):
                check_refused(self, net, UnknownKey, {"word": key}, call, net, key)
        rows = waits(net, "price")
        check_refused(self, net, NothingWaits, {"word": "price"}, next, rows)
        check_refused(self, net, NothingWaits, {"word": "price"}, freeing, net, "price")
        check_refused(self, net, NothingWaits, {"word": "price"}, frees, net, "price", [])
        # The generator looks when it is asked for the first row.
        rows = waits(net, "price")
        fill(net)
        self.assertEqual(list(rows), [("north", 1, "update")])


class FreeingTest(unittest.TestCase):
    def test_through_one_node(self):
        net = fill(chain(1))
        self.assertEqual(check_freeing(self, net), [("store", "north"), ("north", "store")])

    def test_through_a_chain(self):
        for slacks in ((1, 1), (2, 2), (1, 1, 1), (2, 3, 4), (3, 3, 3, 3), (2, 2, 5, 5)):
            net = chain(*slacks)
            for _ in range(5):
                fill(net)
                check_freeing(self, net)

    def test_through_a_tree(self):
        net = tree(("north", "store", 2), ("south", "store", 2), ("oslo", "north", 2), ("rome", "north", 3),
                   ("lima", "south", 2), ("cairo", "lima", 2))
        for _ in range(6):
            fill(net)
            links = check_freeing(self, net)
            self.assertGreater(len(links), 3)

    def test_other_messages_before_the_ones_that_count(self):
        net = tree(("north", "store", (1, 1)), ("oslo", "north", (1, 1)), keys=("price", "size"))
        net.write("size", 1)
        question = net.read("oslo", "price", 0)
        fill(net)
        check_freeing(self, net)
        drain(net)
        self.assertIsNotNone(net.answer(question))

    def test_a_raise_or_an_agree_under_way(self):
        for changed_first in (True, False):
            net = chain(1)
            if changed_first:
                net.change("north", "price", 3)
            fill(net)
            if not changed_first:
                net.change("north", "price", 3)
            self.assertEqual(len(check_freeing(self, net.copy())), 2)
            deliver_all(net, "store", "north")
            # The confirm and the agree each free the write.
            kinds = [message[0] for message in net.messages("north", "store")]
            self.assertEqual(kinds, ["agree", "confirm"] if changed_first else ["confirm", "agree"])
            self.assertEqual(check_freeing(self, net), [("north", "store")])

    def test_none_exactly_if_a_crashed_entry_is_too_small(self):
        for slack in range(1, 6):
            net = chain(2, 2)
            net.join("rome", "oslo" if slack > 1 else "store", {"price": max(2, slack)})
            drain(net)
            fill(net)
            net.crash("rome")
            blocked = sum(net["oslo" if slack > 1 else "store"].entry("rome", "price")) <= net.number("price")
            if blocked:
                self.assertIsNone(freeing(net, "price"))
                twin = net.copy()
                drain(twin)
                self.assertEqual(twin.number("price"), net.number("price"))
            else:
                check_freeing(self, net)

    def test_a_crashed_node_that_is_lacked_only_until_a_lower_is_obeyed(self):
        net = chain(4, 4)
        fill(net)
        self.assertEqual(net.number("price"), 4)
        net = chain(4, 4)
        for _ in range(4):
            net.write("price", 1)
        for link in (("store", "north"), ("north", "oslo"), ("oslo", "north"), ("north", "store")):
            net.deliver(*link)
        deliver_all(net, "store", "north")
        net.crash("oslo")
        net.change("north", "price", 3)
        self.assertIsNone(net.write("price", 1))
        self.assertEqual(list(waits(net, "price")), [("north", 2, "below"), ("oslo", 2, "crashed")])
        self.assertEqual(check_freeing(self, net), [("store", "north"), ("north", "store")])

    def test_many_messages_before_the_ones_that_count(self):
        net = chain(1)
        for _ in range(400):
            net.read("north", "price", 0)
        fill(net)
        links = freeing(net, "price")
        self.assertEqual(links, [("store", "north")] + [("north", "store")] * 401)
        self.assertFalse(frees(net, "price", links[:-1]))
        self.assertTrue(frees(net, "price", links))

    def test_frees_for_other_lists(self):
        net = fill(tree(("north", "store", 1), ("south", "store", 5)))
        good = freeing(net, "price")
        self.assertTrue(frees(net, "price", good))
        # More than is needed is no harm, if it can be delivered.
        self.assertTrue(frees(net, "price", good + [("store", "north")]))
        self.assertTrue(frees(net, "price", [("store", "south")] + good + [("south", "store")]))
        for bad in (
            [], good[::-1], good[1:], good[:-1], good + [("north", "store")], [("south", "store")] + good,
            tuple(good), [list(link) for link in good], [link + ("x",) for link in good], good + [None],
            good + [("store", "rome")], good + [("store", ["north"])], {link: 1 for link in good}, "price", set(good),
            [("north", "store"), ("store", "north")], [good],
        ):
            self.assertFalse(frees(net, "price", bad), bad)
        for odd in ODD:
            self.assertFalse(frees(net, "price", odd))
            self.assertFalse(frees(net, "price", [odd]))
            self.assertFalse(frees(net, "price", good + [(odd, odd)]))
        self.assertIs(frees(net=net, key="price", obj=good), True)
        self.assertEqual(freeing(net=net, key="price"), good)
        self.assertEqual(list(waits(net=net, key="price")), [("north", 1, "update")])

    def test_results_are_new(self):
        net = fill(chain(1))
        links = freeing(net, "price")
        links.append("x")
        self.assertEqual(len(freeing(net, "price")), 2)

    def test_against_all_short_deliveries(self):
        def links_of(net):
            return [("deliver", *link) for link in net.links()]

        for slacks in ((1, 1), (1, 2), (2, 2)):
            for crashed in (None, "oslo", "north"):
                net = fill(chain(*slacks))
                if crashed is not None:
                    deliver_all(net, "store", "north")
                    net.crash(crashed)
                number = net.number("price")
                path = shortest(net, lambda found: found.number("price") > number, 12, steps=links_of)
                self.assertEqual(path is None, freeing(net, "price") is None)


class SettledTest(unittest.TestCase):
    def test_messages_of_each_kind(self):
        net = tree(("north", "store", 3), ("oslo", "north", 4))
        self.assertIs(is_settled(net), True)
        net.write("price", 5)
        net.read("oslo", "price", 0)
        net.join("rome", "north", {"price": 5})
        self.assertTrue(is_settled(net))
        net.deliver("store", "north")
        net.deliver("oslo", "north")
        net.deliver("north", "store")
        net.deliver("north", "store")
        self.assertEqual(
            {message[0] for link in net.links() for message in net.messages(*link)}, {"copy", "update", "answer"}
        )
        self.assertTrue(is_settled(net))
        net.leave("rome")
        self.assertEqual(net.messages("rome", "north"), [("gone",)])
        self.assertTrue(is_settled(net))
        self.assertTrue(is_settled(net=net))

    def test_a_lower_until_it_is_delivered(self):
        net = tree(("north", "store", 3))
        net.change("north", "price", 2)
        self.assertIs(is_settled(net), False)
        net.deliver("store", "north")
        self.assertTrue(is_settled(net))
        net.change("north", "price", 1)
        net.leave("north")
        # The lower is lost.
        self.assertTrue(is_settled(net))

    def test_a_raise_until_the_agree_is_delivered(self):
        net = tree(("north", "store", 1))
        net.change("north", "price", 2)
        self.assertFalse(is_settled(net))
        net.deliver("store", "north")
        self.assertFalse(is_settled(net))
        net.deliver("north", "store")
        self.assertTrue(is_settled(net))

    def test_a_raise_to_which_the_node_cannot_agree(self):
        net = tree(("north", "store", 1), ("oslo", "north", 1))
        net.change("north", "price", 2)
        drain(net)
        self.assertEqual(list(net.links()), [])
        self.assertFalse(is_settled(net))
        net.change("oslo", "price", 2)
        drain(net)
        self.assertTrue(is_settled(net))

    def test_a_raise_of_a_node_that_has_left(self):
        for delivered in (0, 1):
            net = tree(("north", "store", 1), ("oslo", "store", 1))
            net.change("north", "price", 2)
            if delivered:
                net.deliver("store", "north")
            net.leave("north")
            self.assertFalse(is_settled(net))
            deliver_all(net, "north", "store")
            self.assertTrue(is_settled(net))

    def test_crashed_nodes_until_they_are_forgotten_or_back(self):
        for verb in ("forget", "recover"):
            net = tree(("north", "store", 1), ("oslo", "north", 1))
            net.change("oslo", "price", 2)
            net.crash("oslo")
            self.assertFalse(is_settled(net))
            net.perform((verb, "oslo"))
            self.assertTrue(is_settled(net))
        net = tree(("north", "store", 1), ("oslo", "north", 1))
        net.crash("oslo")
        net.crash("north")
        net.forget("north")
        self.assertTrue(is_settled(net))


class SharpTest(unittest.TestCase):
    def check(self, net, name, key):
        before = net.copy()
        bound = net[name].bound(key)
        deeds = sharp(net, name, key)
        self.assertEqual(net, before)
        self.assertIsInstance(deeds, list)
        for deed in deeds:
            if deed[0] == "write":
                self.assertEqual(deed, ("write", key, 0))
            else:
                self.assertEqual((deed[0], len(deed)), ("deliver", 3))
                self.assertNotEqual(deed[2], name)
            net.perform(deed)
        self.assertEqual(net.age(name, key), bound)
        return deeds

    def test_the_store(self):
        for net in (Net(["price"]), fill(chain(1, 2))):
            self.assertEqual(sharp(net, "store", "price"), [])

    def test_a_node_under_the_store(self):
        self.assertEqual(self.check(chain(2), "north", "price"), [("write", "price", 0)] * 2)
        # It is as old as it may be already.
        self.assertEqual(self.check(fill(chain(2)), "north", "price"), [])

    def test_a_node_with_others_that_are_behind(self):
        net = tree(("north", "store", 5), ("south", "store", 1), ("lima", "store", 2))
        deeds = self.check(net, "north", "price")
        self.assertGreater(len(deeds), 8)

    def test_deep_nodes(self):
        for slacks in ((1, 1), (1, 4), (2, 3, 4, 9), (3, 3, 3, 3)):
            for name in ["north", "oslo", "rome", "lima"][:len(slacks)]:
                self.check(chain(*slacks), name, "price")
                net = chain(*slacks)
                net.write("price", 3)
                net.deliver("store", "north")
                self.check(net, name, "price")

    def test_a_net_with_waiting_writes_and_messages_of_other_kinds(self):
        net = tree(("north", "store", (2, 2)), ("oslo", "north", (4, 2)), ("rome", "north", (3, 3)),
                   ("south", "store", (1, 1)), keys=("price", "size"))
        net.write("size", 3)
        fill(net)
        net.write("price", 7)
        net.read("oslo", "price", 0)
        net.leave("rome")
        net.join("lima", "store", {"price": 1, "size": 9})
        for name in ("north", "oslo", "south"):
            for key in ("price", "size"):
                self.check(net.copy(), name, key)

    def test_errors_in_their_order(self):
        net = Net(["price"])
        net.join("north", "store", {"price": 2})
        net.join("south", "store", {"price": 2})
        deliver_all(net, "store", "south")
        net.change("south", "price", 1)
        for name in ODD + ["lima"]:
            check_refused(self, net, UnknownNode, {"node": name}, sharp, net, name, "size")
        for key in ODD + ["size"]:
            check_refused(self, net, UnknownKey, {"word": key}, sharp, net, "north", key)
        check_refused(self, net, NoCopy, {"word": "price"}, sharp, net, "north", "price")
        check_refused(self, net, Unsettled, {"node": "south"}, sharp, net, "south", "price")
        check_refused(self, net, Unsettled, {"node": "store"}, lambda: sharp(net=net, name="store", key="price"))
        drain(net)
        self.assertEqual(sharp(key="price", net=net, name="store"), [])
        net.crash("south")
        check_raised(self, Unsettled, {"node": "north"}, sharp, net, "north", "price")


class WordForWordTest(unittest.TestCase):
    def test_the_first_reason_that_applies(self):
        """Rows by the words of point 17, for all short histories of a small net."""
        def reason(net, parent, child, key, least):
            if [m for m in net.messages(child, parent) if m[:2] == ("confirm", key) and m[2] >= least]:
                return "confirm"
            if child not in net:
                return "gone" if ("gone",) in net.messages(child, parent) else "crashed"
            if key not in net[child] or net[child][key][0] < least:
                return "update"
            return "below"

        def rows(net, parent, key, least):
            found = []
            for child in net[parent].children:
                confirmed, granted = net[parent].entry(child, key)
                own = 0 if parent == "store" else net[parent].allowance(key)
                if granted + confirmed - own < least:
                    lacked = least + own - granted
                    found.append((child, lacked, reason(net, parent, child, key, lacked)))
                    if found[-1][2] == "below":
                        below = rows(net, child, key, lacked)
                        self.assertTrue(below)
                        found += below
            return found

        count = 0
        steps = [("deliver", "store", "north"), ("deliver", "north", "oslo"), ("deliver", "oslo", "north"),
                 ("deliver", "north", "store"), ("write", "price", 1), ("leave", "oslo"), ("crash", "oslo")]
        for path in itertools.product(steps, repeat=4):
            net = fill(chain(1, 1))
            for deed in path:
                try:
                    net.perform(deed)
                except Exception:
                    break
            if net.waiting("price"):
                count += 1
                self.assertEqual(list(waits(net, "price")), rows(net, "store", "price", net.number("price") + 1))
        self.assertGreater(count, 500)


if __name__ == "__main__":
    unittest.main()
