"""How much work deeds and looks are, counted in functions that they go through, and that looks keep nothing."""

import os
import sys
import unittest

from slackcache.desk import Desk
from slackcache.errors import CacheError
from slackcache.explorer import shortest
from slackcache.logbook import Logbook, first_wrong
from slackcache.net import Net
from slackcache.receipts import moment_of_receipt, receipt_of
from slackcache.scripts import parse_script
from tests.drawing import WEIGHTS, Draw, draw_deed
from tests.helpers import inner, tree

PACKAGE = os.path.dirname(os.path.abspath(sys.modules["slackcache.net"].__file__))


def calls_of(call):
    """The names of the functions of the package that a call goes through."""
    found = []

    def note(frame, event, _):
        if event == "call" and frame.f_code.co_filename.startswith(PACKAGE):
            found.append(frame.f_code.co_name)

    before = sys.getprofile()
    sys.setprofile(note)
    try:
        call()
    finally:
        sys.setprofile(before)
    return found


def count_calls(call):
    """How many functions of the package a call goes through, but for comprehensions."""
    return len([name for name in calls_of(call) if not name.startswith("<")])


def looks_of(net):
    """All looks at the nodes and the links of a net."""
    found = [lambda: net.names, lambda: net.order, lambda: list(net.links())]
    for key in net.key_names:
        found += [lambda key=key: net.waiting(key), lambda key=key: net.number(key)]
        for name in net.names:
            found.append(lambda name=name, key=key: key in net[name])
            if key in net[name]:
                found.append(lambda name=name, key=key: net.age(name, key))
                found.append(lambda name=name, key=key: net[name][key])
                found.append(lambda name=name, key=key: net[name].bound(key))
                found.append(lambda name=name, key=key: net[name].allowance(key))
                found.append(lambda name=name, key=key: net[name].told(key))
            for child in net[name].children:
                found.append(lambda name=name, key=key, child=child: net[name].entry(child, key))
    for link in net.links():
        found.append(lambda link=link: net.messages(*link))
    return found


class WorkTest(unittest.TestCase):
    def test_a_look_goes_through_few_functions(self):
        net = tree(("north", "store", (2, 2)), ("oslo", "north", (3, 3)), keys=("a", "key"))
        net.write("a", 5)
        for look in (
            lambda: "a" in net["oslo"], lambda: net["oslo"]["a"], lambda: net["oslo"].bound("a"),
            lambda: net["oslo"].allowance("a"), lambda: net["oslo"].told("a"), lambda: net["north"].entry("oslo", "a"),
            lambda: net.age("oslo", "a"), lambda: net.waiting("a"), lambda: net.messages("store", "north"),
            lambda: net["north"].children, lambda: list(net.links()),
        ):
            self.assertLessEqual(count_calls(look), 2)
        for look in (lambda: net.names, lambda: net["north"], lambda: net.number("a"), lambda: net.messages(1, 2)):
            self.assertEqual(count_calls(look), 1)

    def test_a_deed_goes_through_few_functions(self):
        rows = [("north", "store", (2, 2)), ("south", "store", (2, 2)), ("oslo", "north", (3, 3))]
        net = tree(*rows, keys=("a", "key"))
        deeds = [
            (lambda: net.write("a", 5), 3),
            (lambda: net.deliver("store", "south"), 3),
            (lambda: net.deliver("south", "store"), 3),
            (lambda: net.deliver("store", "north"), 5),
            (lambda: net.read("north", "a", 9), 6),
            (lambda: net.read("oslo", "a", 0), 4),
            (lambda: net.change("south", "a", 4), 4),
            (lambda: net.join("rome", "oslo", {"a": 3, "key": 4}), 11),
            (lambda: net.perform(("deliver", "store", "south")), 7),
        ]
        for at, (deed, most) in enumerate(deeds):
            self.assertLessEqual(count_calls(deed), most, at)
        self.assertEqual(net.history[-1], ("deliver", "store", "south"))

    def test_an_entry_of_a_log_goes_through_few_functions(self):
        book = Logbook(["a"])
        for act in [("join", "north", "store", (("a", 3),)), ("deliver", "store", "north")] + [
            ("number", "a"), ("waiting", "a"), ("age", "north", "a"), ("bound", "north", "a"), ("told", "rome", "a"),
            ("copy", "north", "b"), ("messages", "store", "north"), ("answer", 1), ("deliver", "north", "store"),
            ("write", "a", 5), ("write", "b", 5), ("leave", "rome"), ("change", "north", "a", 3), ("crash", "store"),
        ] * 5:
            book.act(act)
        log = book.noted
        self.assertIsNone(first_wrong(["a"], log))
        # Whether it is right, an act, the act itself with the errors it raises, and the same result.
        self.assertLess(count_calls(lambda: first_wrong(["a"], log)), 8 * len(log))

    def test_the_moment_of_a_receipt_needs_no_more_than_the_deeds_before(self):
        net = tree(("north", "store", (5, 5)), keys=("a", "key"))
        receipts = []
        for value in range(30):
            net.write("a", value)
            net.deliver("store", "north")
            net.deliver("north", "store")
            net.read("north", "a", 9)
            receipts.append(receipt_of(net, value + 1))
        key, need, floor, number, rows = receipts[20]
        north, store = rows
        for receipt in (
            ("size",) + receipts[20][1:], receipts[20][:3] + (99,) + receipts[20][4:], (key, need, floor, number, (store,)),
            (key, need, floor, number - 1, (store,)), (key, need, floor, 31, (("store", 31),)),
            (key, need, floor, number, (north[:1] + (40,) + north[2:], store)),
            (key, need, floor, number, (north, ("store", 31))),
            (key, need, floor, number, (north[:3] + (40,) + north[4:], store)),
        ):
            self.assertNotIn("perform", calls_of(lambda: moment_of_receipt(net, receipt)))
        for at, receipt in enumerate(receipts):
            calls = calls_of(lambda: self.assertIsNotNone(moment_of_receipt(net, receipt)))
            self.assertEqual(calls.count("perform"), moment_of_receipt(net, receipt))
            self.assertLess(calls.count("shows"), 5)
            # One number that is off is not sought for beyond the last moment of the number of the store.
            rows = (receipt[4][0][:2] + (6,) + receipt[4][0][3:], receipt[4][1])
            calls = calls_of(lambda: self.assertIsNone(moment_of_receipt(net, receipt[:4] + (rows,))))
            self.assertLess(calls.count("perform"), 4 * at + 12)

    def test_the_explorer_does_few_deeds_for_each_net(self):
        for rows in ([("north", "store", 2), ("south", "store", 3)],
                     [("north", "store", 2), ("oslo", "north", 3), ("rome", "oslo", 4), ("lima", "store", 3)]):
            net = tree(*rows)
            nets = []
            calls = calls_of(lambda: shortest(net, nets.append, 7))
            self.assertGreater(len(nets), 50)
            # Most nets are reached in several ways, but are made only once.
            self.assertLess(calls.count("perform"), 1.5 * len(nets))
            self.assertLess(calls.count("copy"), 1.5 * len(nets))

    def test_own_steps_that_raise_errors_cost_no_net(self):
        net = tree(("north", "store", 2))
        bad = [("leave", "rome"), ("forget", "north"), ("deliver", "rome", "store"), ("write", "size", 1)]
        nets = []
        calls = calls_of(lambda: shortest(net, nets.append, 6, steps=lambda found: bad + [("write", "price", 0)] + bad))
        self.assertEqual(len(nets), 7)
        self.assertLess(calls.count("copy"), 3 * len(nets))
        self.assertEqual(calls.count("perform"), 6 * 9)

    def test_an_undo_does_few_deeds_again(self):
        desk = Desk()
        desk.create("ann", "main", ["a"])
        desk.run("ann", "main", parse_script("repeat 60\n  repeat 10\n    write a 1\n  end\nend"))

        def undo(many):
            for _ in range(many):
                desk.undo("ann", "main")

        first = calls_of(lambda: undo(1)).count("perform")
        self.assertEqual(first, 599)
        self.assertLess(calls_of(lambda: undo(300)).count("perform"), 300 * 65)
        self.assertEqual(len(desk.twin("main").history), 299)

    def test_looks_keep_nothing(self):
        looks = 0
        for seed in range(20):
            draw = Draw(seed + 300)
            net = Net(["a", "key"])
            for _ in range(60):
                try:
                    net.perform(draw_deed(draw, net, WEIGHTS[seed % len(WEIGHTS)]))
                except CacheError:
                    continue
                before = inner(net)
                for look in looks_of(net):
                    look()
                    looks += 1
                self.assertEqual(inner(net), before)
                # What a net answers hangs on its deeds alone.
                again = Net.replay(net.key_names, net.history)
                self.assertEqual([look() for look in looks_of(net)], [look() for look in looks_of(again)])
        self.assertGreater(looks, 10000)


if __name__ == "__main__":
    unittest.main()
