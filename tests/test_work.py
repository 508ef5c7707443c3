"""How much work deeds and looks are, counted in functions that they go through, and that looks keep nothing."""

import os
import sys
import unittest

from slackcache.errors import CacheError
from slackcache.net import Net
from tests.drawing import WEIGHTS, Draw, draw_deed
from tests.helpers import inner, tree

PACKAGE = os.path.dirname(os.path.abspath(sys.modules["slackcache.net"].__file__))


def count_calls(call):
    """How many functions of the package a call goes through."""
    found = []

    def note(frame, event, _):
        if event == "call" and frame.f_code.co_filename.startswith(PACKAGE):
            found.append(frame.f_code.co_name)

    before = sys.getprofile()
    sys.setprofile(note)
    try:
        call()
    finally:
        sys.setprofile(before)
    return len(found)


def looks_of(net):
    """All looks at the nodes and the links of a net."""
    found = [lambda: net.names, lambda: net.order, lambda: list(net.links())]
    for key in net.key_names:
        found += [lambda key=key: net.waiting(key), lambda key=key: net.number(key)]
        for name in net.names:
            found.append(lambda name=name, key=key: key in net[name])
            if key in net[name]:
                found.append(lambda name=name, key=key: net.age(name, key))
                found.append(lambda name=name, key=key: net[name][key])
                found.append(lambda name=name, key=key: net[name].bound(key))
                found.append(lambda name=name, key=key: net[name].allowance(key))
                found.append(lambda name=name, key=key: net[name].told(key))
            for child in net[name].children:
                found.append(lambda name=name, key=key, child=child: net[name].entry(child, key))
    for link in net.links():
        found.append(lambda link=link: net.messages(*link))
    return found


class WorkTest(unittest.TestCase):
    def test_a_look_goes_through_few_functions(self):
        net = tree(("north", "store", (2, 2)), ("oslo", "north", (3, 3)), keys=("a", "key"))
        net.write("a", 5)
        for look in (
            lambda: "a" in net["oslo"], lambda: net["oslo"]["a"], lambda: net["oslo"].bound("a"),
            lambda: net["oslo"].allowance("a"), lambda: net["oslo"].told("a"), lambda: net["north"].entry("oslo", "a"),
            lambda: net.age("oslo", "a"), lambda: net.waiting("a"), lambda: net.messages("store", "north"),
        ):
            self.assertLessEqual(count_calls(look), 2)

    def test_a_deed_goes_through_few_functions(self):
        rows = [("north", "store", (2, 2)), ("south", "store", (2, 2)), ("oslo", "north", (3, 3))]
        net = tree(*rows, keys=("a", "key"))
        deeds = [
            (lambda: net.write("a", 5), 3),
            (lambda: net.deliver("store", "south"), 3),
            (lambda: net.deliver("south", "store"), 3),
            (lambda: net.deliver("store", "north"), 5),
            (lambda: net.read("north", "a", 9), 6),
            (lambda: net.read("oslo", "a", 0), 4),
            (lambda: net.change("south", "a", 4), 4),
            (lambda: net.join("rome", "oslo", {"a": 3, "key": 4}), 11),
            (lambda: net.perform(("deliver", "store", "south")), 7),
        ]
        for at, (deed, most) in enumerate(deeds):
            self.assertLessEqual(count_calls(deed), most, at)
        self.assertEqual(net.history[-1], ("deliver", "store", "south"))

    def test_looks_keep_nothing(self):
        looks = 0
        for seed in range(20):
            draw = Draw(seed + 300)
            net = Net(["a", "key"])
            for _ in range(60):
                try:
                    net.perform(draw_deed(draw, net, WEIGHTS[seed % len(WEIGHTS)]))
                except CacheError:
                    continue
                before = inner(net)
                for look in looks_of(net):
                    look()
                    looks += 1
                self.assertEqual(inner(net), before)
                # What a net answers hangs on its deeds alone.
                again = Net.replay(net.key_names, net.history)
                self.assertEqual([look() for look in looks_of(net)], [look() for look in looks_of(again)])
        self.assertGreater(looks, 10000)


if __name__ == "__main__":
    unittest.main()
