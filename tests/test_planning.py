"""Point 21: trees, needs, allowances that serve, and ways to a target."""

import itertools
import unittest

from slackcache.errors import CacheError, InvalidNeed, InvalidTarget, InvalidTree, Unsettled
from slackcache.net import Net
from slackcache.planning import greatest_allowances, path_to, serve
from tests.drawing import NAMES, Draw
from tests.helpers import ODD, check_raised, check_refused, drain, inner, tree

WORDS = ["a", "b", "c", "d", "e", "f", "g", "h", "i", "j", "k", "l"]


def draw_tree(draw, many):
    names = [draw.pick(WORDS) for _ in range(many)]
    parents = {}
    for name in names:
        if name not in parents:
            parents[name] = draw.pick(["store"] + list(parents))
    return parents


def all_that_serve(parents, needs, most):
    """All allowances up to so much that serve, by the words of point 21."""
    names = list(parents)
    for choice in itertools.product(range(1, most + 1), repeat=len(names)):
        found = dict(zip(names, choice))
        if all(parents[name] == "store" or found[name] >= found[parents[name]] for name in names):
            if all(found[name] <= needs.get(name, most) for name in names):
                yield found


class AllowanceTest(unittest.TestCase):
    def test_against_all_allowances_that_serve(self):
        for seed in range(80):
            draw = Draw(seed)
            parents = draw_tree(draw, 1 + draw.below(4))
            needs = {name: 1 + draw.below(5) for name in parents if draw.below(3)}
            plan = greatest_allowances(parents, needs)
            self.assertEqual(set(plan), set(parents))
            best = {name: 0 for name in parents}
            for found in all_that_serve(parents, needs, 6):
                self.assertIs(serve(parents, needs, found), True)
                best = {name: max(best[name], found[name]) for name in parents}
            for name, (allowance, barred) in plan.items():
                if barred is None:
                    self.assertEqual((allowance, best[name]), (99, 6))
                else:
                    self.assertEqual(allowance, best[name])
            greatest = {name: plan[name][0] for name in parents}
            self.assertIs(serve(parents, needs, greatest), True)
            for name in parents:
                self.assertFalse(serve(parents, needs, {**greatest, name: greatest[name] + 1}))

    def test_the_name_that_bars(self):
        for seed in range(200):
            draw = Draw(seed)
            parents = draw_tree(draw, 1 + draw.below(11))
            needs = {name: draw.pick([1, 2, 3, 98, 99]) for name in parents if draw.below(3)}
            for name, (allowance, barred) in greatest_allowances(parents, needs).items():
                below = [name]
                while True:
                    more = [node for node in parents if parents[node] in below and node not in below]
                    if not more:
                        break
                    below += more
                least = min([needs[node] for node in below if node in needs] + [99])
                self.assertEqual(allowance, least)
                self.assertEqual(barred, min([node for node in below if needs.get(node) == least], default=None)
                                 if least < 99 else None)

    def test_the_node_itself_and_the_first_in_ascending_order(self):
        parents = {"rome": "store", "oslo": "rome", "lima": "oslo", "delhi": "rome"}
        self.assertEqual(greatest_allowances(parents, {"oslo": 4, "delhi": 4, "rome": 9})["rome"], (4, "delhi"))
        self.assertEqual(greatest_allowances(parents, {"oslo": 4, "delhi": 4, "rome": 4})["rome"], (4, "delhi"))
        self.assertEqual(greatest_allowances(parents, {"oslo": 4, "rome": 4})["rome"], (4, "oslo"))
        self.assertEqual(greatest_allowances(parents, {"rome": 4})["oslo"], (99, None))

    def test_ninety_nine(self):
        self.assertEqual(greatest_allowances({"a": "store"}, {}), {"a": (99, None)})
        self.assertEqual(greatest_allowances({"a": "store"}, {"a": 99}), {"a": (99, None)})
        self.assertEqual(greatest_allowances({"a": "store"}, {"a": 98}), {"a": (98, "a")})
        self.assertTrue(serve({"a": "store"}, {}, {"a": 99}))
        self.assertFalse(serve({"a": "store"}, {}, {"a": 100}))
        self.assertFalse(serve({"a": "store"}, {}, {"a": 0}))

    def test_serve_for_other_objects(self):
        parents, needs = {"a": "store", "b": "a"}, {"b": 3}
        self.assertTrue(serve(parents, needs, {"b": 3, "a": 3}))
        for bad in ODD + [
            {"a": 3}, {"b": 3}, {"a": 3, "b": 3, "c": 3}, {"a": 3, "c": 3}, {"a": 3, "b": 2}, {"a": 4, "b": 4},
            {"a": True, "b": 3}, {"a": 1, "b": True}, {"a": 0, "b": 3}, {"a": 1.0, "b": 3}, {"a": "1", "b": 3},
            {"a": [1], "b": 3}, [("a", 3), ("b", 3)], (("a", 3), ("b", 3)), {"a": (3, "b"), "b": (3, "b")},
            {1: 3, None: 3},
        ]:
            self.assertIs(serve(parents, needs, bad), False, bad)

    def test_trees_that_are_none(self):
        twelve = {name: "store" for name in WORDS}
        self.assertEqual(len(twelve), 12)
        bad = ODD + [
            {}, {"a": "a"}, {"a": "b", "b": "a"}, {"a": "b", "b": "c", "c": "b"}, {"a": "b"}, {"a": "store", "b": "c"},
            {"store": "store"}, {"store": "a", "a": "store"}, {"a": "store", "store": "store"}, twelve,
            {"A": "store"}, {"": "store"}, {"abcdefghi": "store"}, {"a": "Store"}, {"a": None}, {"a": ["store"]},
            {"a": 1}, {1: "store"}, {None: "store"}, {("a",): "store"}, [("a", "store")], ("a", "store"), {"a": True},
            {"a": {}}, {"a b": "store"},
        ]
        for parents in bad:
            check_raised(self, InvalidTree, {"given": parents}, greatest_allowances, parents, None)
            check_raised(self, InvalidTree, {"given": parents}, serve, parents, {"x": 0}, None)
        for name in WORDS:
            del twelve[name]
            self.assertEqual(len(greatest_allowances(twelve, {})), 11)
            twelve[name] = "store"

    def test_needs_that_are_none(self):
        parents = {"a": "store", "b": "a"}
        for needs in ODD:
            if not isinstance(needs, dict) or needs:
                check_raised(self, InvalidNeed, {"given": needs}, greatest_allowances, parents, needs)
        for needs in (
            {"c": 3}, {"store": 3}, {"a": 0}, {"a": 100}, {"a": True}, {"a": 1.0}, {"a": None}, {"a": "3"}, {"a": [3]},
            {1: 3}, {"a": 3, "c": 3}, {"a": 3, "b": -1}, [("a", 3)], (("a", 3),), {("a",): 3},
        ):
            check_raised(self, InvalidNeed, {"given": needs}, greatest_allowances, parents, needs)
            check_raised(self, InvalidNeed, {"given": needs}, serve, parents, needs, {"a": 1, "b": 1})
        self.assertEqual(greatest_allowances(parents, {"a": 1, "b": 99})["b"], (99, None))

    def test_arguments(self):
        parents, needs, allowances = {"a": "store", "b": "a"}, {"b": 3}, {"b": 3, "a": 2}
        before = inner([parents, needs, allowances])
        plan = greatest_allowances(needs=needs, parents=parents)
        self.assertTrue(serve(allowances=allowances, needs=needs, parents=parents))
        self.assertEqual(inner([parents, needs, allowances]), before)
        plan.clear()
        self.assertEqual(greatest_allowances({"b": "a", "a": "store"}, needs), greatest_allowances(parents, needs))


def allowances_of(net):
    return {name: {key: net[name].allowance(key) for key in net.key_names} for name in net.names[1:]}


def check_path(case, net, target):
    before = inner(net)
    deeds = path_to(net, target)
    case.assertEqual(inner(net), before)
    case.assertIsInstance(deeds, list)
    case.assertLessEqual({deed[0] for deed in deeds}, {"deliver", "change"})
    twin = net.copy()
    for deed in deeds:
        twin.perform(deed)
    case.assertEqual(allowances_of(twin), target)
    case.assertEqual(list(twin.links()), [])
    for name in twin.names:
        for child in twin[name].children:
            for key in twin.key_names:
                case.assertEqual(twin[name].entry(child, key)[1], target[child][key])
    return deeds


class PathTest(unittest.TestCase):
    def test_lower_and_greater_targets_at_once(self):
        net = tree(("north", "store", (2, 5)), ("oslo", "north", (3, 6)), ("rome", "oslo", (4, 6)),
                   ("south", "store", (9, 1)), keys=("price", "size"))
        for north, oslo, rome, south in itertools.product((1, 2, 7), (7, 8), (8, 99), (1, 30)):
            check_path(self, net, {
                "rome": {"price": rome, "size": oslo}, "oslo": {"size": oslo, "price": oslo},
                "north": {"price": north, "size": 8 - north}, "south": {"price": south, "size": 31 - south},
            })

    def test_a_net_of_the_store_alone_and_a_target_that_is_reached(self):
        self.assertEqual(path_to(Net(["price"]), {}), [])
        net = tree(("north", "store", 2), ("oslo", "north", 3))
        self.assertEqual(path_to(net, {"north": {"price": 2}, "oslo": {"price": 3}}), [])

    def test_messages_of_other_kinds_under_way(self):
        net = tree(("north", "store", 2), ("oslo", "north", 3), ("rome", "north", 3))
        net.read("oslo", "price", 0)
        for value in range(4):
            net.write("price", value)
        net.deliver("store", "north")
        net.deliver("oslo", "north")
        net.leave("rome")
        net.join("lima", "oslo", {"price": 6})
        self.assertTrue(net.waiting("price"))
        for north, oslo, lima in itertools.product((1, 2, 4), (4, 9), (9, 12)):
            check_path(self, net, {"north": {"price": north}, "oslo": {"price": oslo}, "lima": {"price": lima}})

    def test_drawn_nets(self):
        for seed in range(60):
            draw = Draw(seed)
            keys = ["price", "size"][:1 + draw.below(2)]
            net = Net(keys)
            for _ in range(40):
                pick = draw.below(6)
                try:
                    if pick < 3:
                        net.deliver(*draw.pick(list(net.links())))
                    elif pick == 3:
                        slack = 1 + draw.below(5)
                        net.join(draw.pick(NAMES), draw.pick(net.names), {key: slack for key in keys})
                    elif pick == 4:
                        net.write(draw.pick(keys), 1)
                    else:
                        net.read(draw.pick(net.names), draw.pick(keys), 0)
                except (CacheError, ZeroDivisionError):
                    pass
            target = {}
            for name in net.names[1:]:
                above = net[name].parent
                target[name] = {
                    key: min(99, (target[above][key] if above in target else 1) + draw.below(5)) for key in keys
                }
            check_path(self, net, target)

    def test_objects_that_are_no_target(self):
        net = tree(("north", "store", (2, 2)), ("oslo", "north", (3, 3)), keys=("price", "size"))
        good = {"north": {"price": 2, "size": 2}, "oslo": {"price": 3, "size": 3}}
        check_path(self, net, good)
        bad = ODD + [
            {"north": good["north"]}, {**good, "rome": good["oslo"]}, {**good, "store": good["north"]},
            {**good, "oslo": {"price": 3}}, {**good, "oslo": {"price": 3, "size": 3, "cost": 3}},
            {**good, "oslo": {"price": 3, "cost": 3}}, {**good, "oslo": [3, 3]}, {**good, "oslo": None},
            {**good, "oslo": {"price": 3, "size": 0}}, {**good, "oslo": {"price": 3, "size": 100}},
            {**good, "oslo": {"price": 3, "size": True}}, {**good, "oslo": {"price": 3, "size": 3.0}},
            {**good, "oslo": {"price": 1, "size": 3}}, {**good, "north": {"price": 2, "size": 4}},
            {**good, "oslo": {"price": [3], "size": 3}}, list(good.items()), {"north": 2, "oslo": 3},
            {**good, "oslo": (("price", 3), ("size", 3))}, {1: good["north"], None: good["oslo"]},
        ]
        net.change("north", "price", 1)
        for target in bad:
            check_refused(self, net, InvalidTarget, {"given": target}, path_to, net, target)

    def test_nets_that_are_not_settled(self):
        net = tree(("north", "store", 2), ("oslo", "store", 2))
        good = {"north": {"price": 2}, "oslo": {"price": 2}}
        net.change("north", "price", 1)
        check_refused(self, net, Unsettled, {"node": "store"}, path_to, net, good)
        drain(net)
        check_path(self, net, good)
        net.change("north", "price", 3)
        check_refused(self, net, Unsettled, {"node": "store"}, path_to, net, good)
        drain(net)
        net.crash("north")
        check_refused(self, net, InvalidTarget, {"given": good}, path_to, net, good)
        check_refused(self, net, Unsettled, {"node": "store"}, path_to, net, {"oslo": {"price": 2}})
        net.forget("north")
        deeds = path_to(target={"oslo": {"price": 3}}, net=net)
        self.assertEqual(deeds[0], ("change", "oslo", "price", 3))

    def test_a_crashed_node_that_is_back(self):
        net = tree(("north", "store", 2), ("oslo", "north", 2))
        net.crash("north")
        net.recover("north")
        check_path(self, net, {"north": {"price": 9}})


if __name__ == "__main__":
    unittest.main()
