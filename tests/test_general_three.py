"""Point 2 over waits, conditions, the explorer, planning, scripts, desks, texts and the console."""

import unittest

from slackcache.conditions import parse_condition
from slackcache.cuts import Cut
from slackcache.desk import Desk
from slackcache.errors import InvalidMost, InvalidNeed, InvalidSequence, InvalidTarget, InvalidTree
from slackcache.explorer import greatest_age, shortest, steps_of
from slackcache.net import Net
from slackcache.planning import (
    check_pushes, fewest_pushes, greatest_allowances, path_to, run_policy, serve,
)
from slackcache.scripts import parse_script
from slackcache.sessions import Token
from slackcache.texts import (
    format_cut, format_history, format_token, parse_cut, parse_deed, parse_history, parse_token,
)
from slackcache.waits import freeing, frees, is_settled, sharp, waits
from tests.helpers import check_raised, inner, tree


def waiting_net():
    net = tree(("north", "store", 1), ("south", "store", 4))
    for value in range(3):
        net.write("price", value)
    return net


class BoolTest(unittest.TestCase):
    def test_bools_are_no_integers(self):
        net = tree(("north", "store", 1))
        for odd in (True, False):
            check_raised(self, InvalidMost, {"given": odd}, shortest, net, lambda found: True, odd)
            check_raised(self, InvalidMost, {"given": odd}, greatest_age, net, "store", "price", odd)
            for needs in ({"a": odd},):
                check_raised(self, InvalidNeed, {"given": needs}, greatest_allowances, {"a": "store"}, needs)
            for target in ({"north": {"price": odd}},):
                check_raised(self, InvalidTarget, {"given": target}, path_to, net, target)
            for sequence in (["write", ("read", odd)], ("write", ("read", odd))):
                check_raised(self, InvalidSequence, {"given": sequence}, fewest_pushes, sequence)
            self.assertFalse(serve({"a": "store"}, {}, {"a": odd}))
        sequence = ["write", "write", ("read", 0)]
        self.assertTrue(check_pushes(sequence, ((1,), (2,))))
        self.assertFalse(check_pushes(sequence, ((True,), (2,))))
        self.assertFalse(check_pushes(["write", ("read", 0)], ((0,), (True,))))
        self.assertFalse(check_pushes(["write", ("read", 0)], ((False,), (1,))))


class ArgumentTest(unittest.TestCase):
    def test_nothing_that_was_passed_in_is_changed_or_kept(self):
        net = waiting_net()
        parents, needs = {"a": "store", "b": "a"}, {"b": 3, "a": 2}
        target = {"north": {"price": 3}, "south": {"price": 9}}
        sequence = ["write", ("read", 0)]
        keys, order, links = ["price"], ["price", "price"], freeing(net, "price")
        history = [("write", "price", 1)]
        things = [net, parents, needs, target, sequence, keys, order, links, history]
        before = inner(things)
        cut = parse_cut("price=1", order)
        results = [
            list(waits(net, "price")), frees(net, "price", links), is_settled(net), sharp(net, "south", "price"),
            steps_of(net), shortest(net, lambda found: False, 2), greatest_age(net, "store", "price", 2),
            greatest_allowances(parents, needs), serve(parents, needs, {"a": 1, "b": 1}), path_to(net, target),
            fewest_pushes(sequence), run_policy(sequence, lambda at, age: True), parse_deed("write price 1", keys),
            parse_history("write price 1", keys), format_history(history), parse_condition("0 = 0")(net),
        ]
        self.assertEqual(inner(things), before)
        self.assertEqual(len(results), 16)
        order.append("price")
        self.assertEqual(cut, Cut(["price", "price"], {"price": 1}))

    def test_the_order_of_the_keys_of_a_dict_means_nothing(self):
        parents, needs = {"a": "store", "b": "a", "c": "a"}, {"b": 3, "c": 3, "a": 9}
        back = {name: parents[name] for name in reversed(parents)}
        self.assertEqual(greatest_allowances(parents, needs),
                         greatest_allowances(back, {name: needs[name] for name in reversed(needs)}))
        self.assertTrue(serve(back, needs, {"c": 3, "b": 3, "a": 3}))
        net = tree(("north", "store", (1, 2)), ("oslo", "north", (2, 3)), keys=("price", "size"))
        target = {"north": {"price": 2, "size": 1}, "oslo": {"price": 3, "size": 4}}
        back = {name: dict(reversed(target[name].items())) for name in reversed(target)}
        self.assertEqual(path_to(net, target), path_to(net, back))
        self.assertEqual(format_token(Token({"b": 1, "a": 2})), format_token(Token({"a": 2, "b": 1})))
        order = ["a", "b"]
        self.assertEqual(format_cut(Cut(order, {"b": 1, "a": 0})), format_cut(Cut(order, {"a": 0, "b": 1})))

    def test_lists_and_tuples_with_the_same_items(self):
        sequence = ["write", "write", ("read", 1), ("read", 0)]
        self.assertEqual(fewest_pushes(sequence), fewest_pushes(tuple(sequence)))
        self.assertEqual(run_policy(sequence, lambda at, age: age > 1), run_policy(tuple(sequence), lambda at, age: age > 1))
        self.assertIs(check_pushes(tuple(sequence), fewest_pushes(sequence)), True)
        self.assertEqual(parse_deed("write a 1", ["a"]), parse_deed("write a 1", ("a",)))
        self.assertEqual(parse_history("write a 1", ["a"]), parse_history("write a 1", ("a",)))
        self.assertEqual(parse_cut("a=1", ["a"]), parse_cut("a=1", ("a",)))
        self.assertEqual(format_history([("leave", "a")]), format_history((("leave", "a"),)))
        desk = Desk()
        desk.create("ann", "one", ["price"])
        desk.create("ann", "other", ("price",))
        self.assertIsNone(desk.first_difference("one", "other"))


class ResultTest(unittest.TestCase):
    def test_returned_lists_and_dicts_are_new(self):
        net = waiting_net()
        plain = tree(("north", "store", 2))
        desk = Desk()
        desk.create("ann", "main", ["price"])
        token, cut = parse_token("a=1"), parse_cut("a=1", ["a"])
        for look in (
            lambda: freeing(net, "price"), lambda: sharp(plain, "north", "price"), lambda: steps_of(net),
            lambda: path_to(plain, {"north": {"price": 5}}), lambda: greatest_allowances({"a": "store"}, {"a": 4}),
            lambda: desk.names, lambda: token.floors, lambda: cut.numbers,
        ):
            first = look()
            want = inner(first)
            self.assertTrue(first)
            first.clear()
            self.assertEqual(inner(look()), want)

    def test_equal_calls_return_equal_results(self):
        twins = [waiting_net(), waiting_net().copy(), Net.replay(["price"], waiting_net().history)]
        for look in (
            lambda net: list(waits(net, "price")), lambda net: freeing(net, "price"), steps_of,
            lambda net: shortest(net, parse_condition("waiting price = 0"), 5),
            lambda net: greatest_age(net, "south", "price", 4), lambda net: sharp(net, "south", "price"),
            lambda net: path_to(net, {"north": {"price": 5}, "south": {"price": 2}}),
            lambda net: parse_script("drain\nexpect waiting price = 0").run(net.copy()).deeds,
        ):
            results = [look(net) for net in twins for _ in range(2)]
            self.assertEqual(results, [results[0]] * 6)

    def test_objects_are_never_equal_to_objects_of_other_classes(self):
        things = [parse_condition("0 = 0"), parse_script("drain"), parse_token("-"), parse_cut("a=0", []), Net(["a"]),
                  Net(["a"])["store"], "0 = 0", "drain", "-", None, 0, (), {}]
        for at, one in enumerate(things):
            for other in things[:at] + things[at + 1:]:
                self.assertFalse(one == other)
                self.assertTrue(one != other)

    def test_errors_of_the_tree_come_before_those_of_the_needs(self):
        check_raised(self, InvalidTree, {"given": None}, greatest_allowances, None, None)
        check_raised(self, InvalidNeed, {"given": None}, serve, {"a": "store"}, None, None)


if __name__ == "__main__":
    unittest.main()
