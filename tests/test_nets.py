"""Points 4 to 6: nets, nodes, links, copies and entries."""

import unittest

from slackcache.errors import InvalidKeys, InvalidName, LimitExceeded, NoMessage
from slackcache.net import Net
from tests.helpers import LIST_OF_A_WORD, ODD, TUPLE_OF_A_WORD, check_refused, drain, picture, tree

WORDS = ["a", "z", "abcdefgh", "price", "store", "north", "none", "true"]


class KeysTest(unittest.TestCase):
    def test_one_to_four_keys(self):
        for keys in (["a"], ["b", "a"], ["abcdefgh", "zz", "q"], ["d", "c", "b", "a"], ["store"]):
            for given in (keys, tuple(keys)):
                net = Net(given)
                self.assertEqual(net.key_names, tuple(keys))
                self.assertEqual([net.number(key) for key in keys], [0] * len(keys))
                self.assertEqual([net["store"][key] for key in keys], [(0, 0)] * len(keys))
                self.assertEqual((net.names, net.history, net.order, len(net)), (("store",), (), (), 1))

    def test_no_keys_too_many_or_the_same_key_twice(self):
        for keys in ([], ["a", "b", "c", "d", "e"], ["a", "a"], ["a", "b", "a"], ["a", "b", "c", "c"]):
            self.check_invalid(keys)
            self.check_invalid(tuple(keys))

    def test_objects_that_are_no_list_or_tuple_of_words(self):
        for given in ("a", "price", {"price"}, {"price": 1}, iter(["price"]), b"price", 1, None, frozenset(["a"])):
            self.check_invalid(given)
        for obj in ODD:
            if obj is not LIST_OF_A_WORD and obj is not TUPLE_OF_A_WORD:
                self.check_invalid(obj)
            self.check_invalid([obj])
            self.check_invalid(("price", obj))

    def test_words_have_one_to_eight_letters_from_a_to_z(self):
        wrong = ["", "abcdefghi", "A", "aB", "a1", "1", "a ", " a", "a-b", "a_b", "`", "{", "\u00e4", "\u0430", "a\n"]
        for word in WORDS:
            self.assertEqual(Net([word]).key_names, (word,))
        for word in wrong:
            self.check_invalid([word])
        net = Net(["price"])
        for word in wrong:
            check_refused(self, net, InvalidName, {"given": word}, net.join, word, "store", {"price": 1})
        for word in ("a", "z", "abcdefgh", "price"):
            net.join(word, "store", {"price": 1})
            self.assertIn(word, net)

    def check_invalid(self, given):
        with self.assertRaises(InvalidKeys) as caught:
            Net(given)
        self.assertIs(caught.exception.given, given)


class NodesTest(unittest.TestCase):
    def test_the_store_counts_as_a_node_with_a_copy_of_every_key(self):
        net = Net(["price", "size"])
        store = net["store"]
        found = [(store[key], store.told(key), store.allowance(key), store.bound(key)) for key in ("price", "size")]
        self.assertEqual(found, [((0, 0), 0, 0, 0)] * 2)
        net.write("size", 7)
        self.assertEqual((store.name, store.parent, store.children, len(store)), ("store", None, (), 2))
        self.assertEqual((store["price"], store["size"]), ((0, 0), (1, 7)))
        self.assertEqual((store.told("price"), store.told("size")), (0, 1))
        self.assertEqual((store.allowance("size"), store.bound("size"), net.age("store", "size")), (0, 0, 0))
        net.write("size", -8)
        self.assertEqual((store["size"], store.told("size"), store.bound("size")), ((2, -8), 2, 0))

    def test_twelve_nodes_and_a_thirteenth(self):
        net = Net(["price"])
        names = ["n" + letter for letter in "abcdefghijk"]
        for name in names:
            net.join(name, "store", {"price": 1})
        self.assertEqual((len(net), net.names), (12, ("store", *names)))
        check_refused(self, net, LimitExceeded, {"limit": 12}, net.join, "more", "store", {"price": 1})
        net.leave("nc")
        self.assertEqual(len(net), 11)
        net.join("more", "store", {"price": 1})
        check_refused(self, net, LimitExceeded, {"limit": 12}, net.join, "most", "store", {"price": 1})
        self.assertEqual(net.names[-1], "more")

    def test_twelve_nodes_in_a_chain(self):
        names = ["store"] + ["n" + letter for letter in "abcdefghijk"]
        net = tree(*[(name, above, at + 1) for at, (above, name) in enumerate(zip(names, names[1:]))])
        self.assertEqual(net.names, tuple(names))
        check_refused(self, net, LimitExceeded, {"limit": 12}, net.join, "more", "nk", {"price": 20})
        self.assertEqual(net.write("price", 5), 1)
        drain(net)
        self.assertEqual([net[name]["price"] for name in names], [(1, 5)] * 12)
        self.assertEqual([net[name].told("price") for name in names], [1] * 12)
        self.assertEqual([net[name].bound("price") for name in names], list(range(12)))

    def test_a_node_has_no_copies_until_they_arrive(self):
        net = tree(("north", "store", (2, 5)), keys=("price", "size"), drained=False)
        north = net["north"]
        self.assertEqual(net.messages("store", "north"), [("copy", "price", 0, 0, 2), ("copy", "size", 0, 0, 5)])
        self.assertEqual((len(north), "price" in north, "size" in north), (0, False, False))
        self.assertEqual(net.deliver("store", "north"), ("copy", "price", 0, 0, 2))
        self.assertEqual((len(north), "price" in north, "size" in north), (1, True, False))
        net.deliver("store", "north")
        self.assertEqual((len(north), north["size"], north.allowance("size"), north.told("size")), (2, (0, 0), 5, 0))


class LinksTest(unittest.TestCase):
    def test_messages_of_a_link_stay_in_order_and_links_are_independent(self):
        net = tree(("north", "store", 9), ("south", "store", 9))
        for value in (5, 6, 7):
            net.write("price", value)
        sent = [("update", "price", 1, 5), ("update", "price", 2, 6), ("update", "price", 3, 7)]
        self.assertEqual(net.messages("store", "north"), sent)
        self.assertEqual(net.messages("store", "south"), sent)
        self.assertEqual([net.deliver("store", "south") for _ in range(3)], sent)
        self.assertEqual(net.messages("store", "north"), sent)
        self.assertEqual(net.messages("store", "south"), [])
        self.assertEqual(net.deliver("store", "north"), sent[0])
        self.assertEqual(net.messages("store", "north"), sent[1:])
        self.assertEqual(net.messages("north", "store"), [("confirm", "price", 1)])

    def test_links_in_ascending_order(self):
        net = tree(("south", "store", 9), ("north", "store", 9), ("alpha", "south", 20))
        self.assertEqual(list(net.links()), [])
        net.write("price", 5)
        self.assertEqual(list(net.links()), [("store", "north"), ("store", "south")])
        net.deliver("store", "south")
        expected = [("south", "alpha"), ("south", "store"), ("store", "north")]
        self.assertEqual(list(net.links()), expected)
        net.deliver("south", "alpha")
        self.assertEqual(list(net.links()), [("alpha", "south"), ("south", "store"), ("store", "north")])

    def test_no_message(self):
        net = tree(("north", "store", 2), ("south", "store", 2))
        net.write("price", 5)
        for sender, receiver in (("north", "store"), ("south", "north"), ("store", "store"), ("rome", "store")):
            fields = {"sender": sender, "receiver": receiver}
            check_refused(self, net, NoMessage, fields, net.deliver, sender, receiver)
            self.assertEqual(net.messages(sender, receiver), [])
        for obj in ODD:
            for sender, receiver in ((obj, "north"), ("store", obj), (obj, obj)):
                fields = {"sender": sender, "receiver": receiver}
                check_refused(self, net, NoMessage, fields, net.deliver, sender, receiver)
                self.assertEqual(net.messages(sender, receiver), [])
        before = picture(net)
        net.messages("store", "north")
        self.assertEqual(picture(net), before)


if __name__ == "__main__":
    unittest.main()
