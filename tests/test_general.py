"""Point 2: the general rules."""

import inspect
import itertools
import types
import unittest

from slackcache.cache import Cache
from slackcache.errors import InvalidAllowance, InvalidDeed, InvalidNeed, InvalidValue, UnknownQuestion
from slackcache.net import Net
from tests.helpers import check_refused, drain, inner, picture, tree

PARAMETERS = {
    "join": ["name", "parent", "allowances"],
    "write": ["key", "value"],
    "read": ["name", "key", "need", "*floor"],
    "change": ["name", "key", "allowance"],
    "deliver": ["sender", "receiver"],
    "leave": ["name"],
    "crash": ["name"],
    "forget": ["name"],
    "recover": ["name"],
    "perform": ["deed"],
    "answer": ["question"],
    "number": ["key"],
    "waiting": ["key"],
    "age": ["name", "key"],
    "messages": ["sender", "receiver"],
    "links": [],
    "copy": [],
}

CACHE_PARAMETERS = {
    "allowance": ["key"],
    "told": ["key"],
    "bound": ["key"],
    "can_answer": ["key", "need", "*floor"],
    "entry": ["child", "key"],
}


def names_of(function):
    rows = list(inspect.signature(function).parameters.values())[1:]
    return ["*" + row.name if row.kind == row.KEYWORD_ONLY else row.name for row in rows]


class BoolTest(unittest.TestCase):
    def test_bools_are_no_allowances_also_inside_dicts_and_tuples(self):
        net = Net(["price", "size"])
        for given in ({"price": True, "size": 2}, {"price": 2, "size": True}, {"price": False, "size": 2}):
            check_refused(self, net, InvalidAllowance, {"given": given}, net.join, "north", "store", given)
            pairs = tuple((key, given[key]) for key in ("price", "size"))
            check_refused(
                self, net, InvalidAllowance, {"given": given}, net.perform, ("join", "north", "store", pairs)
            )
        net.join("north", "store", {"price": 1, "size": 1})
        for given in (True, False):
            check_refused(self, net, InvalidAllowance, {"given": given}, net.change, "north", "price", given)
            check_refused(
                self, net, InvalidAllowance, {"given": given}, net.perform, ("change", "north", "price", given)
            )

    def test_bools_are_no_values_needs_floors_or_questions(self):
        net = tree(("north", "store", 2))
        net.write("price", 5)
        net.read("store", "price", 0)
        for given in (True, False):
            check_refused(self, net, InvalidValue, {"given": given}, net.write, "price", given)
            check_refused(self, net, InvalidValue, {"given": given}, net.perform, ("write", "price", given))
            check_refused(self, net, InvalidNeed, {"given": given}, net.read, "store", "price", given)
            check_refused(self, net, InvalidNeed, {"given": given}, net.read, "store", "price", 0, floor=given)
            deed = ("read", "store", "price", given, 0)
            check_refused(self, net, InvalidNeed, {"given": given}, net.perform, deed)
            deed = ("read", "store", "price", 0, given)
            check_refused(self, net, InvalidNeed, {"given": given}, net.perform, deed)
            check_refused(self, net, InvalidNeed, {"given": given}, net["north"].can_answer, "price", given)
            check_refused(self, net, InvalidNeed, {"given": given}, net["store"].can_answer, "price", 0, floor=given)
            check_refused(self, net, UnknownQuestion, {"question": given}, net.answer, given)


class ArgumentTest(unittest.TestCase):
    def test_names_of_the_arguments(self):
        for kind, listed in ((Net, PARAMETERS), (Cache, CACHE_PARAMETERS)):
            for name, fields in listed.items():
                self.assertEqual(names_of(vars(kind)[name]), fields, name)
        self.assertEqual(names_of(Net.__init__), ["keys"])
        self.assertEqual(names_of(vars(Net)["replay"].__func__), ["keys", "history"])

    def test_each_method_stands_in_its_own_class(self):
        for name in ("__contains__", "__getitem__", "__len__", "__eq__"):
            self.assertIn(name, vars(Net))
            self.assertIn(name, vars(Cache))
        self.assertIn("__rshift__", vars(Cache))
        for kind, listed in ((Net, "key_names names history order"), (Cache, "name parent children")):
            for name in listed.split():
                self.assertIsInstance(vars(kind)[name], property)
        self.assertEqual((Net.__module__, Cache.__module__), ("slackcache.net", "slackcache.cache"))
        self.assertIsInstance(vars(Net)["replay"], classmethod)
        self.assertEqual(Net.MOST, 12)
        self.assertEqual(Net(["a"]).MOST, 12)

    def test_by_position_and_by_name_in_any_order(self):
        calls = [
            ("join", {"name": "north", "parent": "store", "allowances": {"price": 2}}),
            ("deliver", {"sender": "store", "receiver": "north"}),
            ("write", {"key": "price", "value": 5}),
            ("write", {"key": "price", "value": 6}),
            ("read", {"name": "north", "key": "price", "need": 1}),
            ("change", {"name": "north", "key": "price", "allowance": 9}),
            ("perform", {"deed": ("write", "price", 1)}),
            ("answer", {"question": 1}),
            ("number", {"key": "price"}),
            ("waiting", {"key": "price"}),
            ("age", {"name": "north", "key": "price"}),
            ("messages", {"sender": "store", "receiver": "north"}),
            ("crash", {"name": "north"}),
            ("recover", {"name": "north"}),
            ("crash", {"name": "north"}),
            ("forget", {"name": "north"}),
            ("join", {"name": "south", "parent": "store", "allowances": {"price": 2}}),
            ("leave", {"name": "south"}),
        ]
        nets = [Net(["price"]), Net(keys=["price"]), Net(("price",)), Net(keys=("price",))]
        for method, arguments in calls:
            backwards = dict(reversed(list(arguments.items())))
            results = [
                getattr(nets[0], method)(*arguments.values()),
                getattr(nets[1], method)(**arguments),
                getattr(nets[2], method)(**backwards),
                getattr(nets[3], method)(*list(arguments.values())[:1], **dict(list(arguments.items())[1:])),
            ]
            self.assertEqual(results, [results[0]] * 4, method)
            for net in nets[1:]:
                self.assertEqual(picture(net), picture(nets[0]), method)
        history = nets[0].history
        self.assertEqual(Net.replay(history=history, keys=["price"]), Net.replay(["price"], history))
        self.assertEqual(nets[0], Net.replay(["price"], history=history))

    def test_arguments_of_caches_by_name(self):
        net = tree(("north", "store", 2))
        cache = net["north"]
        self.assertEqual([cache.allowance(key="price"), cache.told(key="price"), cache.bound(key="price")], [2, 0, 2])
        self.assertEqual(net["store"].entry(key="price", child="north"), (0, 2))
        self.assertIs(cache.can_answer(floor=0, need=2, key="price"), True)
        self.assertIs(cache.can_answer("price", 1), False)

    def test_floor_by_name_only(self):
        net = Net(["price"])
        with self.assertRaises(TypeError):
            net.read("store", "price", 0, 0)
        with self.assertRaises(TypeError):
            net["store"].can_answer("price", 0, 0)
        self.assertEqual(net.history, ())


class CopyTest(unittest.TestCase):
    def test_what_was_passed_in_is_neither_changed_nor_kept(self):
        keys, slacks = ["price", "size"], {"size": 3, "price": 2}
        net = Net(keys)
        net.join("north", "store", slacks)
        self.assertEqual((keys, slacks, list(slacks)), (["price", "size"], {"size": 3, "price": 2}, ["size", "price"]))
        before = picture(net)
        keys.append("third")
        slacks["price"] = 9
        slacks.clear()
        self.assertEqual(picture(net), before)
        self.assertEqual(net["store"].entry("north", "price"), (0, 2))
        history = list(net.history)
        other = Net.replay(["price", "size"], history)
        self.assertEqual(history, list(net.history))
        history.append(("write", "price", 1))
        self.assertEqual(picture(other), before)

    def test_returned_lists_are_new(self):
        net = tree(("north", "store", 1))
        for value in (5, 6, 7):
            net.write("price", value)
        for look in (lambda: net.messages("store", "north"), lambda: net.waiting("price"), lambda: net.messages(1, 2)):
            first, second = look(), look()
            self.assertIsInstance(first, list)
            self.assertIsNot(first, second)
            before = (picture(net), inner(net))
            first.append("more")
            second.clear()
            self.assertEqual((picture(net), inner(net)), before)

    def test_kinds_of_results(self):
        net = tree(("north", "store", 1))
        net.write("price", 5)
        for found in (net.key_names, net.names, net.history, net.order, net["store"].children):
            self.assertIs(type(found), tuple)
        for found in (net["north"]["price"], net["store"].entry("north", "price"), net.messages("store", "north")[0]):
            self.assertIs(type(found), tuple)
        self.assertIsInstance(net.links(), types.GeneratorType)
        self.assertEqual([type(link) for link in net.links()], [tuple])
        self.assertIs(type("north" in net), bool)
        self.assertIs(type(net["north"].can_answer("price", 5)), bool)

    def test_the_order_of_a_dict_means_nothing(self):
        keys = ["size", "price", "color"]
        found = []
        for order in itertools.permutations(keys):
            net = Net(keys)
            net.join("north", "store", {key: len(key) for key in order})
            found.append((inner(net), net.messages("store", "north")))
        self.assertEqual(found, [found[0]] * 6)
        self.assertEqual([message[1] for message in found[0][1]], keys)

    def test_lists_and_tuples_with_the_same_items_have_the_same_result(self):
        first, second = Net(["price", "size"]), Net(("price", "size"))
        self.assertEqual(first, second)
        self.assertEqual(inner(first), inner(second))
        first.write("size", 3)
        history = first.history
        self.assertEqual(
            inner(Net.replay(["price", "size"], list(history))), inner(Net.replay(("price", "size"), history))
        )

    def test_equal_calls_in_the_same_state_return_equal_results(self):
        first, second = [tree(("north", "store", 2), ("oslo", "north", 3), keys=("a", "b")) for _ in range(2)]
        for net in (first, second):
            net.write("b", 4)
            net.read("oslo", "b", 0)
            drain(net)
        self.assertEqual(inner(first), inner(second))
        self.assertEqual(picture(first), picture(first))
        self.assertEqual(list(first.links()), list(second.links()))

    def test_nothing_hangs_on_letters(self):
        one = tree(("north", "store", 2), ("oslo", "north", 3), keys=("a", "b"))
        other = tree(("zeta", "store", 2), ("alpha", "zeta", 3), keys=("b", "a"))
        turn = {"north": "zeta", "oslo": "alpha", "a": "b", "b": "a"}
        deeds = [
            ("write", "a", 4), ("deliver", "store", "north"), ("read", "oslo", "a", 0, 0), ("write", "b", 4),
            ("deliver", "store", "north"), ("deliver", "oslo", "north"), ("crash", "oslo"), ("forget", "oslo"),
        ]
        for deed in deeds:
            found = one.perform(deed)
            expected = other.perform(tuple(turn.get(item, item) for item in deed))
            if isinstance(found, tuple):
                found = tuple(turn.get(item, item) for item in found)
            self.assertEqual(found, expected)


class RefusalTest(unittest.TestCase):
    def test_objects_of_this_package_are_never_equal_to_others(self):
        net = tree(("north", "store", 2))
        for obj in (net, net["north"]):
            for other in (None, 0, "north", (), [], {}, object(), net.history, net.names, vars(obj)):
                self.assertFalse(obj == other)
                self.assertFalse(other == obj)
                self.assertTrue(obj != other)
        self.assertFalse(net == net["north"])
        self.assertFalse(net["north"] == net)

        class Equal:
            def __eq__(self, other):
                return True

            __hash__ = None

        self.assertFalse(net == Equal())
        self.assertFalse(net["north"] == Equal())

    def test_a_refused_deed_of_each_kind_changes_nothing(self):
        net = tree(("north", "store", 1), ("oslo", "north", 2))
        for value in range(5):
            net.write("price", value)
        net.deliver("store", "north")
        net.read("oslo", "price", 0)
        net.change("north", "price", 2)
        before = (picture(net), inner(net))
        refused = [
            ("join", "oslo", "store", (("price", 2),)), ("join", "rome", "north", (("price", 0),)),
            ("join", "rome", "oslo", (("price", 1),)), ("write", "size", 1), ("write", "price", "1"),
            ("read", "rome", "price", 0, 0), ("read", "oslo", "price", 0, 9), ("change", "store", "price", 1),
            ("change", "north", "price", 3), ("change", "oslo", "price", 1), ("deliver", "oslo", "store"),
            ("leave", "north"), ("leave", "rome"), ("crash", "rome"), ("forget", "oslo"), ("recover", "oslo"),
        ]
        for deed in refused:
            with self.assertRaises(Exception):
                net.perform(deed)
            self.assertEqual((picture(net), inner(net)), before, deed)
        for given in (None, [], ("write",), ("write", "price", 1, 2), ("links",), ("copy",), (), "write"):
            check_refused(self, net, InvalidDeed, {"given": given}, net.perform, given)


if __name__ == "__main__":
    unittest.main()
