"""Point 2, as far as it speaks of cuts, sessions, receipts and logbooks, and the form of their interface."""

import inspect
import unittest

from slackcache import cuts, logbook, receipts, sessions
from slackcache.cuts import Cut, check_bar, cut_at, find_bar, group_bound, keys_to_ask
from slackcache.errors import InvalidCut, InvalidMoment, InvalidNeed, InvalidToken, UnknownQuestion
from slackcache.logbook import Logbook, first_wrong
from slackcache.net import Net
from slackcache.receipts import judge, moment_of_receipt, receipt_of, shown_age
from slackcache.sessions import Session, Token
from tests.helpers import check_raised, check_refused, drain, inner, tree

FUNCTIONS = {
    cuts: {
        "find_bar": ["cut"], "check_bar": ["cut", "obj"], "cut_at": ["net", "name", "keys"],
        "group_bound": ["net", "name", "keys"], "keys_to_ask": ["net", "name", "keys", "need"],
    },
    sessions: {},
    receipts: {
        "receipt_of": ["net", "question"], "judge": ["obj"], "shown_age": ["receipt"],
        "moment_of_receipt": ["net", "receipt"],
    },
    logbook: {"first_wrong": ["keys", "log"]},
}

METHODS = {
    Cut: {
        "__init__": ["order", "numbers"], "distance": ["moment"], "__or__": None, "__and__": None, "__eq__": None,
        "__len__": None,
    },
    Token: {"__init__": ["floors"], "__getitem__": None, "__or__": None, "__eq__": None, "__bool__": None},
    Session: {
        "__init__": ["net"], "move": ["name"], "write": ["key", "value"], "read": ["key", "need"],
        "take": ["question"], "floor": ["key"], "token": [], "hand": ["token"],
    },
    Logbook: {"__init__": ["keys"], "act": ["act"], "__len__": None},
}

PROPERTIES = {
    Cut: ["order", "numbers", "spread", "nearest", "seen"], Token: ["floors"], Session: ["place", "pending"],
    Logbook: ["noted"],
}

ROWS = (("north", 0, 2, 0, 2), ("store", 1))


def two_nets():
    """A net with two keys and a node north, which lacks a write of price."""
    net = tree(("north", "store", (2, 3)), keys=("price", "size"))
    net.write("price", 5)
    return net


class InterfaceTest(unittest.TestCase):
    def test_functions(self):
        for module, listed in FUNCTIONS.items():
            for name, fields in listed.items():
                function = vars(module)[name]
                self.assertEqual(list(inspect.signature(function).parameters), fields)
                self.assertEqual(function.__module__, module.__name__)

    def test_methods_and_properties_stand_in_their_classes(self):
        for kind, listed in METHODS.items():
            for name, fields in listed.items():
                self.assertIn(name, vars(kind))
                if fields is not None:
                    self.assertEqual(list(inspect.signature(vars(kind)[name]).parameters)[1:], fields)
            for name in PROPERTIES[kind]:
                self.assertIsInstance(vars(kind)[name], property)
        modules = [kind.__module__.split(".")[1] for kind in METHODS]
        self.assertEqual(modules, ["cuts", "sessions", "sessions", "logbook"])

    def test_by_position_and_by_name_in_any_order(self):
        net = two_nets()
        net.read("north", "price", 2)
        receipt = receipt_of(net, 1)
        cut = Cut(numbers={"price": 1}, order=["price"])
        self.assertEqual((cut, cut.distance(moment=0)), (Cut(["price"], {"price": 1}), 1))
        self.assertEqual((find_bar(cut=cut), check_bar(obj=None, cut=cut)), (None, True))
        self.assertEqual(cut_at(keys=["price"], name="north", net=net), cut_at(net, "north", ["price"]))
        self.assertEqual(group_bound(name="north", net=net, keys=("size",)), 3)
        self.assertEqual(keys_to_ask(need=2, keys=["price", "size"], net=net, name="north"), ("size",))
        self.assertEqual(receipt_of(question=1, net=net), receipt)
        self.assertEqual((judge(obj=receipt), shown_age(receipt=receipt)), (True, 2))
        self.assertEqual(moment_of_receipt(receipt=receipt, net=net), 4)
        book = Logbook(keys=["price"])
        self.assertEqual((book.act(act=("number", "price")), first_wrong(log=book.noted, keys=["price"])), (0, None))
        session = Session(net=net)
        self.assertEqual((session.move(name="north"), session.write(value=7, key="price")), (None, 2))
        question = session.read(need=0, key="price")
        drain(net)
        self.assertEqual((session.take(question=question), session.floor(key="price")), ((2, 7), 2))
        self.assertIsNone(session.hand(token=Token(floors={"price": 1})))

    def test_objects_of_this_package_are_never_equal_to_others(self):
        class Equal:
            __hash__ = None

            def __eq__(self, other):
                return True

        objects = [Cut([], {"a": 0}), Token({}), Token({"a": 1}), Net(["a"])]
        for one in objects:
            for other in (*objects, Equal(), None, 0, {}, (), vars(one), object()):
                if one is not other:
                    self.assertFalse(one == other)
                    self.assertTrue(one != other)

    def test_kinds_of_results(self):
        net = two_nets()
        session = Session(net)
        cut = cut_at(net, "store", ["size", "price"])
        rows = [
            (cut.order, tuple), (cut.numbers, dict), (cut.spread, int), (cut.nearest, int), (cut.seen, tuple),
            (keys_to_ask(net, "north", ["price"], 0), tuple), (group_bound(net, "north", ["price"]), int),
            (check_bar(cut, None), bool), (judge(None), bool), (judge(("x", 0, 0, 0, (("store", 0),))), bool),
            (session.pending, tuple), (session.place, str), (session.token(), Token), (session.token().floors, dict),
            (Logbook(["a"]).noted, list), (bool(Token({"a": 1})), bool), (cut | cut, Cut),
        ]
        for found, kind in rows:
            self.assertIs(type(found), kind)


class BoolTest(unittest.TestCase):
    def test_bools_are_no_integers(self):
        net = two_nets()
        net.read("store", "price", 0)
        session = Session(net)
        session.read("price", 0)
        for given in (True, False):
            check_raised(self, InvalidCut, {"given": {"a": given}}, Cut, ["a"], {"a": given})
            check_raised(self, InvalidMoment, {"given": given}, Cut(["a"], {"a": 0}).distance, given)
            check_raised(self, InvalidToken, {"given": {"a": given}}, Token, {"a": given})
            check_refused(self, net, InvalidNeed, {"given": given}, keys_to_ask, net, "north", ["price"], given)
            check_refused(self, net, InvalidNeed, {"given": given}, session.read, "price", given)
            check_refused(self, net, UnknownQuestion, {"question": given}, session.take, given)
            check_refused(self, net, UnknownQuestion, {"question": given}, receipt_of, net, given)

    def test_bools_in_receipts_and_logs(self):
        good = ("price", 2, 0, 0, ROWS)
        self.assertIs(judge(good), True)
        wrong = [
            good[:2] + (False,) + good[3:], good[:3] + (False,) + good[4:],
            good[:4] + ((("north", False) + ROWS[0][2:], ROWS[1]),), good[:4] + ((ROWS[0], ("store", True)),),
        ]
        net = two_nets()
        self.assertEqual(moment_of_receipt(net, good), 4)
        for obj in wrong:
            self.assertIs(judge(obj), False)
            self.assertIsNone(moment_of_receipt(net, obj))
        log = [(("write", "price", 1), 1), (("waiting", "price"), []), (("copy", "store", "price"), (1, 1))]
        self.assertIsNone(first_wrong(["price"], log))
        self.assertEqual(first_wrong(["price"], [(log[0][0], True)]), 0)
        self.assertEqual(first_wrong(["price"], log[:2] + [(log[2][0], (1, True))]), 2)
        self.assertEqual(first_wrong(["price"], [(("write", "price", True), 1)]), 0)
        self.assertIsNone(first_wrong(["price"], [(("write", "price", True), ("error", "InvalidValue"))]))


class CopyTest(unittest.TestCase):
    def test_what_was_passed_in_is_neither_changed_nor_kept(self):
        order, numbers, keys, log = ["a", "b"], {"b": 1, "a": 0}, ["price", "size"], [(("number", "a"), 0)]
        cut, book, net = Cut(order, numbers), Logbook(keys), two_nets()
        cut_at(net, "north", keys), group_bound(net, "north", keys), keys_to_ask(net, "north", keys, 0)
        first_wrong(["a"], log)
        self.assertEqual((order, list(numbers.items())), (["a", "b"], [("b", 1), ("a", 0)]))
        self.assertEqual((keys, log), (["price", "size"], [(("number", "a"), 0)]))
        before = (inner(cut), inner(book))
        order.append("c")
        numbers["a"] = 1
        keys.clear()
        self.assertEqual((inner(cut), inner(book)), before)
        self.assertEqual((cut.order, cut.numbers, book.act(("number", "size"))), (("a", "b"), {"a": 0, "b": 1}, 0))

    def test_returned_dicts_are_new(self):
        cut, token = Cut(["a"], {"a": 1}), Token({"a": 1})
        for look in (lambda: cut.numbers, lambda: token.floors):
            first = look()
            self.assertIsNot(first, look())
            first.clear()
            self.assertEqual(look(), {"a": 1})

    def test_the_order_of_a_dict_means_nothing(self):
        one, other = Cut(["a", "b", "c"], {"a": 0, "b": 1, "c": 1}), Cut(["a", "b", "c"], {"c": 1, "b": 1, "a": 0})
        self.assertEqual((one, one.spread, one.nearest, find_bar(one)), (other, other.spread, other.nearest,
                                                                         find_bar(other)))
        self.assertEqual(Token({"a": 1, "b": 2}), Token({"b": 2, "a": 1}))

    def test_lists_and_tuples_with_the_same_items_have_the_same_result(self):
        net = two_nets()
        self.assertEqual(inner(Cut(["a"], {"a": 1})), inner(Cut(("a",), {"a": 1})))
        for keys in (["size", "price"], ["price"]):
            for call in (cut_at, group_bound):
                self.assertEqual(call(net, "north", keys), call(net, "north", tuple(keys)))
            self.assertEqual(keys_to_ask(net, "north", keys, 2), keys_to_ask(net, "north", tuple(keys), 2))
        self.assertEqual(inner(Logbook(["a"])), inner(Logbook(("a",))))
        log = [(("number", "a"), 0)]
        self.assertEqual((first_wrong(["a"], log), first_wrong(("a",), log)), (None, None))

    def test_equal_calls_in_the_same_state_return_equal_results(self):
        net = two_nets()
        net.read("north", "price", 2)
        session = Session(net)
        looks = [
            lambda: cut_at(net, "north", ["price"]), lambda: group_bound(net, "north", ["price"]),
            lambda: keys_to_ask(net, "north", ["price", "size"], 2), lambda: receipt_of(net, 1),
            lambda: moment_of_receipt(net, receipt_of(net, 1)), lambda: session.token(), lambda: session.pending,
            lambda: find_bar(Cut(["a", "b"], {"a": 0, "b": 1})),
        ]
        before = (inner(net), inner(session))
        for look in looks:
            self.assertEqual(look(), look())
        self.assertEqual((inner(net), inner(session)), before)

    def test_nothing_hangs_on_letters(self):
        one = tree(("north", "store", (2, 3)), keys=("a", "b"))
        other = tree(("abc", "store", (2, 3)), keys=("z", "c"))
        for net, keys in ((one, "ab"), (other, "zc")):
            net.write(keys[1], 5)
            net.read(net.names[1], keys[0], 2)
        self.assertEqual(receipt_of(one, 1)[1:4], receipt_of(other, 1)[1:4])
        self.assertEqual(receipt_of(one, 1)[4][0][1:], receipt_of(other, 1)[4][0][1:])
        self.assertEqual(keys_to_ask(one, "north", ["a", "b"], 2), ("b",))
        self.assertEqual(keys_to_ask(other, "abc", ["z", "c"], 2), ("c",))


if __name__ == "__main__":
    unittest.main()
