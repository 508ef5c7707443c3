"""The interface of the caches."""

import unittest

from slackcache.cache import Cache
from slackcache.errors import InvalidNeed, NoCopy, UnknownKey, UnknownNode
from slackcache.net import Net
from tests.helpers import ODD, check_refused, deliver_all, drain, picture, tree


def late_net():
    """oslo has a copy of price, but none of size yet."""
    net = tree(("north", "store", (2, 3)), keys=("price", "size"))
    net.join("oslo", "north", {"price": 4, "size": 5})
    net.deliver("north", "oslo")
    return net


class ShownTest(unittest.TestCase):
    def test_names_parents_and_children(self):
        net = tree(("c", "store", 1), ("b", "store", 1), ("a", "b", 2))
        self.assertIsInstance(net["b"], Cache)
        found = [(net[name].name, net[name].parent, net[name].children) for name in net.names]
        self.assertEqual(found, [
            ("store", None, ("c", "b")), ("c", "store", ()), ("b", "store", ("a",)), ("a", "b", ()),
        ])
        net.leave("a")
        net.crash("c")
        self.assertEqual((net["store"].children, net["b"].children), (("c", "b"), ("a",)))
        net.forget("c")
        drain(net)
        self.assertEqual((net["store"].children, net["b"].children), (("b",), ()))

    def test_copies(self):
        net = late_net()
        net.write("price", 7)
        deliver_all(net, "store", "north")
        north, oslo = net["north"], net["oslo"]
        self.assertEqual((len(net["store"]), len(north), len(oslo)), (2, 2, 1))
        self.assertEqual(["price" in oslo, "size" in oslo, "size" in north], [True, False, True])
        self.assertEqual((north["price"], north["size"], oslo["price"]), ((1, 7), (0, 0), (0, 0)))
        self.assertEqual([north.allowance("price"), north.told("price"), north.bound("price")], [2, 1, 2])
        self.assertEqual([oslo.allowance("price"), oslo.told("price"), oslo.bound("price")], [4, 0, 4])
        for obj in [*ODD, "north", "pric", 0]:
            self.assertIs(obj in north, False)

    def test_unknown_keys_and_missing_copies(self):
        net = late_net()
        oslo = net["oslo"]
        for call in (oslo.__getitem__, oslo.allowance, oslo.told, oslo.bound):
            for obj in [*ODD, "north", "pric", 0]:
                check_refused(self, net, UnknownKey, {"word": obj}, call, obj)
            check_refused(self, net, NoCopy, {"word": "size"}, call, "size")
        self.assertIs(oslo.can_answer("size", 999), False)

    def test_can_answer(self):
        net = tree(("north", "store", 2))
        net.write("price", 5)
        north = net["north"]
        self.assertEqual([north.can_answer("price", need) for need in (0, 1, 2, 3)], [False, False, True, True])
        self.assertEqual([north.can_answer("price", 2, floor=floor) for floor in (0, 1)], [True, False])
        self.assertIs(net["store"].can_answer("price", 0, floor=1), True)
        for need in (-1, 1000, True, None, "2"):
            check_refused(self, net, InvalidNeed, {"given": need}, north.can_answer, "price", need, floor=9)
        for floor in (-1, 2, False, None):
            check_refused(self, net, InvalidNeed, {"given": floor}, north.can_answer, "price", 2, floor=floor)
        check_refused(self, net, UnknownKey, {"word": 1}, north.can_answer, 1, -1, floor=-1)

    def test_entries(self):
        net = late_net()
        north = net["north"]
        self.assertEqual([north.entry("oslo", "price"), north.entry("oslo", "size")], [(0, 4), (0, 5)])
        for obj in [*ODD, "store", "north", "rome"]:
            check_refused(self, net, UnknownNode, {"node": obj}, north.entry, obj, obj)
            check_refused(self, net, UnknownNode, {"node": "oslo"}, net["store"].entry, "oslo", obj)
        for obj in [*ODD, "oslo"]:
            check_refused(self, net, UnknownKey, {"word": obj}, north.entry, "oslo", obj)
        net.crash("oslo")
        self.assertEqual(north.entry("oslo", "size"), (0, 5))
        net.forget("oslo")
        check_refused(self, net, UnknownNode, {"node": "oslo"}, north.entry, "oslo", "size")

    def test_children_by_sign(self):
        net = tree(("north", "store", 2), ("oslo", "north", 4), ("rome", "north", 4), ("paris", "north", 4))
        oslo = net["store"] >> "north" >> "oslo"
        self.assertIsInstance(oslo, Cache)
        self.assertEqual((oslo.name, oslo), ("oslo", net["oslo"]))
        net.crash("rome")
        net.leave("paris")
        north = net["north"]
        self.assertEqual(north.children, ("oslo", "rome", "paris"))
        for obj in [*ODD, "store", "north", "rome", "paris", "price"]:
            check_refused(self, net, UnknownNode, {"node": obj}, lambda: north >> obj)
        check_refused(self, net, UnknownNode, {"node": "oslo"}, lambda: net["store"] >> "oslo")
        net.recover("rome")
        self.assertEqual((north >> "rome").name, "rome")


class KeptTest(unittest.TestCase):
    def looks(self, cache):
        return [
            lambda: cache.name, lambda: cache.parent, lambda: cache.children, lambda: "price" in cache,
            lambda: [] in cache, lambda: cache["price"], lambda: cache[[]], lambda: len(cache), lambda: cache >> "oslo",
            lambda: cache >> [], lambda: cache.allowance("price"), lambda: cache.told([]), lambda: cache.bound("price"),
            lambda: cache.can_answer([], -1), lambda: cache.entry([], []),
        ]

    def test_a_cache_shows_the_node_as_it_is_at_each_moment(self):
        net = tree(("north", "store", 2))
        north = net["north"]
        self.assertEqual((north["price"], north.bound("price")), ((0, 0), 2))
        net.write("price", 5)
        drain(net)
        self.assertEqual((north["price"], north.told("price"), north.children), ((1, 5), 1, ()))
        net.join("oslo", "north", {"price": 3})
        self.assertEqual(north.children, ("oslo",))

    def test_a_cache_whose_node_is_not_there(self):
        for go in (lambda net: net.crash("north"), lambda net: net.leave("north")):
            net = tree(("north", "store", 2))
            north, same = net["north"], net["north"]
            go(net)
            for look in self.looks(north):
                check_refused(self, net, UnknownNode, {"node": "north"}, look)
            self.assertTrue(north == same)
            self.assertFalse(north != same)
            self.assertFalse(north == net["store"])
            self.assertFalse(north == "north")

    def test_a_cache_is_kept_while_its_node_goes_and_comes_back(self):
        net = tree(("north", "store", 2))
        net.write("price", 5)
        drain(net)
        north = net["north"]
        net.crash("north")
        net.recover("north")
        self.assertEqual((north.name, len(north), "price" in north), ("north", 0, False))
        check_refused(self, net, NoCopy, {"word": "price"}, north.bound, "price")
        drain(net)
        self.assertEqual(north["price"], (1, 5))
        net.leave("north")
        drain(net)
        net.join("south", "store", {"price": 3})
        drain(net)
        net.join("north", "south", {"price": 9})
        drain(net)
        self.assertEqual((north.parent, north.allowance("price"), north), ("south", 9, net["north"]))

    def test_a_kept_cache_shows_all_that_the_node_shows_that_is_back(self):
        net = tree(("north", "store", (2, 3)), ("oslo", "north", (4, 5)), keys=("price", "size"))
        north = net["north"]
        net.crash("north")
        net.recover("north")
        net.write("price", 7)
        net.deliver("store", "north")
        # There is a copy of one key alone.
        self.assertEqual([key in north for key in ("price", "size", "cost", 5, [])], [True, False, False, False, False])
        drain(net)
        net.write("price", 8)
        net.deliver("store", "north")
        net.join("rome", "north", {"price": 6, "size": 7})
        new = net["north"]
        for key in ("price", "size"):
            self.assertEqual(
                [north[key], north.told(key), north.bound(key), north.allowance(key), north.entry("rome", key),
                 north.can_answer(key, 2), key in north],
                [new[key], new.told(key), new.bound(key), new.allowance(key), new.entry("rome", key),
                 new.can_answer(key, 2), key in new],
            )
        self.assertEqual((north["price"], north.told("price"), north.bound("price")), ((2, 8), 2, 2))
        self.assertEqual(north.entry("rome", "size"), (0, 7))
        self.assertEqual((north.children, len(north), north >> "rome"), (("rome",), 2, net["rome"]))
        check_refused(self, net, UnknownNode, {"node": "oslo"}, north.entry, "oslo", "cost")
        check_refused(self, net, UnknownKey, {"word": "cost"}, north.entry, "rome", "cost")
        check_refused(self, net, UnknownKey, {"word": "cost"}, north.told, "cost")

    def test_two_caches_are_equal_if_their_names_and_nets_are(self):
        net, other = [tree(("north", "store", 2), ("south", "store", 2)) for _ in range(2)]
        self.assertTrue(net["north"] == net["north"])
        self.assertTrue(net["north"] == other["north"])
        self.assertFalse(net["north"] == net["south"])
        self.assertTrue(net["north"] != net["south"])
        kept = other["north"]
        other.write("price", 1)
        self.assertFalse(net["north"] == kept)
        net.write("price", 1)
        self.assertTrue(net["north"] == kept)
        self.assertFalse(Net(["a"])["store"] == Net(["b"])["store"])

    def test_looking_changes_nothing(self):
        net = late_net()
        before = picture(net)
        oslo = net["oslo"]
        for look in (lambda: oslo.name, lambda: oslo["price"], lambda: len(oslo), lambda: oslo.can_answer("price", 1)):
            look()
        self.assertEqual(picture(net), before)


if __name__ == "__main__":
    unittest.main()
