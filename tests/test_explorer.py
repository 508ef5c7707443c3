"""Point 20: steps, continuations, nets that count as one, shortest continuations and greatest ages."""

import unittest

from slackcache.conditions import parse_condition
from slackcache.errors import CacheError, InvalidMost, LimitExceeded, NoCopy, UnknownKey, UnknownNode
from slackcache.explorer import greatest_age, shortest, steps_of
from slackcache.net import Net
from tests.drawing import WEIGHTS, Draw, draw_deed
from tests.helpers import ODD, check_raised, drain, inner, picture, tree


def shown(net):
    """All that a net shows but its history."""
    return repr([part for at, part in enumerate(picture(net)) if at != 6])


def own_steps(net):
    """The explorer's own steps by the words of point 20."""
    return [("write", key, 0) for key in net.key_names] + [("deliver", *link) for link in sorted(net.links())]


def after(net, path):
    """The net after a continuation, None if a step raises an error."""
    twin = net.copy()
    for deed in path:
        try:
            twin.perform(deed)
        except CacheError:
            return None
    return twin


def plain_search(net, most, steps):
    """By depth, the continuations in their order with the nets after them; no two nets are taken for one."""
    layer = [((), net.copy())]
    for _ in range(most + 1):
        yield layer
        following = []
        for path, past in layer:
            for deed in steps(past):
                found = after(past, (deed,))
                if found is not None:
                    following.append((path + (deed,), found))
        layer = following


def plain_shortest(net, goal, most, steps=own_steps):
    for layer in plain_search(net, most, steps):
        for path, found in layer:
            if goal(found):
                return path
    return None


def plain_greatest(net, name, key, most, steps=own_steps):
    best = None
    for layer in plain_search(net, most, steps):
        for path, found in layer:
            if name in found and key in found[name]:
                age = found.age(name, key)
                if best is None or age > best[0]:
                    best = (age, path)
    return best


def small_nets():
    yield Net(["price"])
    yield tree(("north", "store", 1))
    yield tree(("north", "store", 2), ("south", "store", 1))
    yield tree(("north", "store", 1), ("oslo", "north", 2), drained=True)
    yield tree(("north", "store", (1, 2)), keys=("size", "price"))
    undrained = Net(["price"])
    undrained.join("north", "store", {"price": 1})
    undrained.join("south", "store", {"price": 1})
    yield undrained
    asked = tree(("north", "store", 1), ("oslo", "north", 1), ("rome", "north", 1))
    asked.read("oslo", "price", 0)
    asked.read("rome", "price", 0)
    yield asked


class StepsTest(unittest.TestCase):
    def test_own_steps_in_their_order(self):
        net = tree(("north", "store", (9, 9)), ("delhi", "store", (9, 9)), keys=("size", "price"))
        self.assertEqual(steps_of(net), [("write", "size", 0), ("write", "price", 0)])
        net.write("price", 4)
        net.deliver("store", "north")
        self.assertEqual(
            steps_of(net=net),
            [("write", "size", 0), ("write", "price", 0), ("deliver", "north", "store"), ("deliver", "store", "delhi")],
        )
        steps_of(net).clear()
        self.assertEqual(len(steps_of(net)), 4)

    def test_a_write_that_would_raise_an_error_is_left_out(self):
        net = tree(("north", "store", (1, 1)), keys=("size", "price"))
        for _ in range(21):
            net.write("size", 0)
        self.assertEqual(len(net.waiting("size")), 20)
        self.assertEqual(steps_of(net), [("write", "price", 0), ("deliver", "store", "north")])
        path = shortest(net, parse_condition("waiting size < 20"), 3)
        self.assertEqual(path, (("deliver", "store", "north"), ("deliver", "north", "store")))


class ShortestTest(unittest.TestCase):
    def test_against_a_plain_search(self):
        goals = ["number price = 2", "waiting price = 1", "age north price = 2", "age oslo price > 0", "there lima",
                 "told north price = 1", "sent north store = 1 and number price = 1", "copy south price = 0",
                 "sent store north = 0", "number price > 0 and sent store north = 0 and sent north store = 0"]
        found = 0
        for net in small_nets():
            for text in goals:
                goal = parse_condition(text)
                for most in (0, 1, 3, 4):
                    path = shortest(net, goal, most)
                    self.assertEqual(path, plain_shortest(net, goal, most), (text, most))
                    found += path is not None
        self.assertGreater(found, 60)

    def test_answers_as_goals(self):
        for net in small_nets():
            for question in (1, 2):
                def goal(found):
                    try:
                        return found.answer(question) is not None
                    except CacheError:
                        return False

                self.assertEqual(shortest(net, goal, 5), plain_shortest(net, goal, 5))

    def test_a_goal_that_holds_at_once_and_one_that_holds_never(self):
        for net in small_nets():
            self.assertEqual(shortest(net, lambda found: True, 0), ())
            self.assertEqual(shortest(net, parse_condition("0 = 0"), 20), ())
            self.assertIsNone(shortest(net, lambda found: False, 0))
            self.assertIsNone(shortest(net, lambda found: 0, 3))
        # Nothing else can happen, as the only step is done.
        net = Net(["price"])
        self.assertIsNone(shortest(net, lambda found: False, 20, steps=lambda found: []))

    def test_each_different_net_once_in_order(self):
        for net in small_nets():
            for most in range(5):
                wanted = []
                for layer in plain_search(net, most, own_steps):
                    for _, found in layer:
                        if shown(found) not in wanted:
                            wanted.append(shown(found))
                seen = []
                shortest(net, lambda found: seen.append(shown(found)), most)
                self.assertEqual(seen, wanted)
                # Until the goal holds, and no further net then.
                half = wanted[len(wanted) // 2]
                seen = []
                shortest(net, lambda found: seen.append(shown(found)) or shown(found) == half, most)
                self.assertEqual(seen, wanted[:len(wanted) // 2 + 1])

    def test_nets_have_their_histories(self):
        net = tree(("north", "store", 1))
        histories = []
        shortest(net, lambda found: histories.append(found.history), 3)
        for history in histories:
            self.assertEqual(history[:len(net.history)], net.history)
            self.assertEqual(shown(Net.replay(["price"], history)), shown(after(net, history[len(net.history):])))

    def test_the_net_stays_as_it_is(self):
        for net in small_nets():
            before = inner(net)
            shortest(net, lambda found: False, 3)
            greatest_age(net, "store", net.key_names[0], 3)
            steps_of(net)
            self.assertEqual(inner(net), before)

    def test_orders_tell_nets_apart(self):
        net = Net(["a", "b"])
        seen = []
        shortest(net, lambda found: seen.append(found.order), 2)
        self.assertEqual(seen, [(), ("a",), ("b",), ("a", "a"), ("a", "b"), ("b", "a"), ("b", "b")])

    def test_nets_that_differ_only_in_their_histories(self):
        net = tree(("north", "store", 2), ("south", "store", 2))
        net.write("price", 1)
        seen = []

        def deliveries(found):
            return [("deliver", *link) for link in found.links()]

        shortest(net, lambda found: seen.append(shown(found)), 4, steps=deliveries)
        # Two messages on each way, done in any order.
        self.assertEqual(len(seen), 9)
        self.assertEqual(len(set(seen)), 9)

    def test_receipts_tell_no_nets_apart(self):
        # The rows of the receipt hang on whether the write came first; the answers do not.
        net = tree(("north", "store", 3))

        def steps(found):
            return [("read", "north", "price", 9, 0), ("write", "price", 0)]

        seen = []
        shortest(net, lambda found: seen.append(shown(found)), 2, steps=steps)
        self.assertEqual(len(seen), 6)

    def test_reasons_that_are_not_seen_at_once_tell_nets_apart(self):
        # A raise that was not agreed, a crashed node and a lost answer.
        def raised(found):
            return [("change", "north", "price", 2), ("deliver", "store", "north"), ("forget", "oslo")]

        net = tree(("north", "store", 1), ("oslo", "north", 1))

        def goal(found):
            try:
                found.copy().change("north", "price", 2)
                return False
            except CacheError:
                return not list(found.links())

        self.assertEqual(len(shortest(net, goal, 3, steps=raised)), 2)
        net = tree(("north", "store", 1), ("oslo", "north", 1))
        net.read("oslo", "price", 0)

        def lose(found):
            return [("deliver", *link) for link in found.links()] + [("crash", "oslo"), ("recover", "oslo")]

        def answered(found):
            return found.answer(1) is not None

        self.assertEqual(shortest(net, answered, 5, steps=lose), plain_shortest(net, answered, 5, steps=lose))
        lost = net.copy()
        lost.crash("oslo")
        lost.recover("oslo")
        self.assertIsNone(shortest(lost, answered, 5, steps=lose))


    def test_a_lost_answer_under_way_tells_nets_apart(self):
        net = tree(("north", "store", 1), ("oslo", "north", 1))
        net.read("oslo", "price", 0)

        def steps(found):
            return [("deliver", *link) for link in found.links()] + [("crash", "oslo"), ("recover", "oslo")]

        def lost(found):
            """The answer is under way, all else is done, and yet it will be lost."""
            if list(found.links()) != [("store", "north")] or "oslo" not in found or "price" not in found["oslo"]:
                return False
            twin = found.copy()
            drain(twin)
            return found.messages("store", "north")[0][0] == "answer" and twin.answer(1) is None

        path = shortest(net, lost, 5, steps=steps)
        self.assertEqual(sorted(deed[0] for deed in path), ["crash", "deliver", "deliver", "deliver", "recover"])

    def test_raises_in_any_order_are_the_same(self):
        # Oslo keeps north from agreeing, so that both raises stay.
        net = tree(("north", "store", (1, 1)), ("oslo", "north", (1, 1)), keys=("a", "b"))

        def steps(found):
            return [("change", "north", "a", 2), ("change", "north", "b", 2), ("deliver", "store", "north")]

        seen = []
        shortest(net, lambda found: seen.append(shown(found)), 4, steps=steps)
        # Of each key: not raised, under way or asked for; both under way in two orders.
        self.assertEqual(len(seen), 3 * 3 + 1)

    def test_drawn_nets_once_each(self):
        most_seen = 0
        for seed in range(80):
            draw = Draw(seed + 4000)
            net = Net(["price", "size"][:1 + draw.below(2)])
            for _ in range(40):
                try:
                    net.perform(draw_deed(draw, net, WEIGHTS[seed % len(WEIGHTS)]))
                except CacheError:
                    pass
            for most in (2, 3) if len(steps_of(net)) < 6 else (2,):
                wanted = []
                for layer in plain_search(net, most, own_steps):
                    wanted += [shown(found) for _, found in layer]
                seen = []
                shortest(net, lambda found: seen.append(shown(found)), most)
                self.assertEqual(list(dict.fromkeys(seen)), list(dict.fromkeys(wanted)))
                most_seen = max(most_seen, len(seen))
        self.assertGreater(most_seen, 60)

    def test_messages_of_a_parent_and_a_child_in_either_order(self):
        # North tells other numbers, in other messages, if it hears oslo first.
        net = tree(("north", "store", 2), ("oslo", "north", 2), ("rome", "north", 2))
        for _ in range(2):
            net.write("price", 1)
            net.deliver("store", "north")
        for name in ("oslo", "rome"):
            for _ in range(2):
                net.deliver("north", name)
        net.change("north", "price", 4)
        net.read("oslo", "price", 0)
        for most in range(5):
            wanted = []
            for layer in plain_search(net, most, own_steps):
                wanted += [shown(found) for _, found in layer]
            seen = []
            shortest(net, lambda found: seen.append(shown(found)), most)
            self.assertEqual(seen, list(dict.fromkeys(wanted)))


class OwnStepsTest(unittest.TestCase):
    def test_steps_that_raise_an_error_are_left_out(self):
        net = tree(("north", "store", 2))
        good = ("write", "price", 7)
        bad = [None, [], "write", ("write",), ("write", "size", 1), ("deliver", "store", "north"), ("leave", "store"),
               ["write", "price", 7], ("crash", ["north"]), {}, ("write", "price", True)]

        def steps(found):
            return bad + [good] + bad

        path = shortest(net, lambda found: found.number("price") == 2, 4, steps=steps)
        self.assertEqual(path, (good, good))

    def test_other_deeds(self):
        net = tree(("north", "store", 2), ("oslo", "north", 2))

        def steps(found):
            return [("crash", "north"), ("forget", "north"), ("leave", "oslo"), ("leave", "north"),
                    ("deliver", "oslo", "north"), ("deliver", "north", "store")]

        for goal in ("not there oslo and not there north and sent north store > 0", "nodes = 1", "nodes = 2"):
            goal = parse_condition(goal)
            self.assertEqual(shortest(net, goal, 4, steps=steps), plain_shortest(net, goal, 4, steps))
        join = ("join", "lima", "store", (("price", 3),))
        path = shortest(net, parse_condition("there lima and not there oslo"), 3, steps=lambda found: [join] + steps(found))
        self.assertEqual(path, (join, ("crash", "north")))

    def test_steps_are_asked_for_nets_that_are_gone_on_from(self):
        net = tree(("north", "store", 2))
        asked = []

        def steps(found):
            asked.append(shown(found))
            return own_steps(found)

        shortest(net, lambda found: False, 0, steps=steps)
        self.assertEqual(asked, [])
        shortest(net, lambda found: False, 3, steps=steps)
        self.assertEqual(len(asked), len(set(asked)))

    def test_drawn_nets_and_steps(self):
        found = 0
        for seed in range(60):
            draw = Draw(seed + 900)
            net = Net(["price"])
            for _ in range(25):
                try:
                    net.perform(draw_deed(draw, net, WEIGHTS[seed % len(WEIGHTS)]))
                except CacheError:
                    pass
            extra = [draw_deed(draw, net, WEIGHTS[seed % len(WEIGHTS)]) for _ in range(3)]

            def steps(found):
                return [("deliver", *link) for link in found.links()][:3] + extra

            wanted = [shown(net)] + [shown(after(net, (deed,))) for deed in steps(net) if after(net, (deed,))]
            for most in (1, 2, 3):
                for goal in (lambda found: len(list(found.links())) == 0, lambda found: shown(found) == wanted[-1],
                             lambda found: found.number("price") > net.number("price") + 1,
                             lambda found: len(found) != len(net)):
                    path = shortest(net, goal, most, steps=steps)
                    self.assertEqual(path, plain_shortest(net, goal, most, steps))
                    self.assertEqual(shortest(net, goal, min(most, 2)), plain_shortest(net, goal, min(most, 2)))
                    found += bool(path)
        self.assertGreater(found, 100)


class GreatestAgeTest(unittest.TestCase):
    def test_against_a_plain_search(self):
        for net in small_nets():
            for name in net.names:
                for key in net.key_names:
                    if key in net[name]:
                        for most in (0, 1, 2, 4):
                            self.assertEqual(greatest_age(net, name, key, most), plain_greatest(net, name, key, most))

    def test_a_copy_is_never_older_than_its_bound(self):
        net = tree(("north", "store", 2), ("oslo", "north", 3))
        age, path = greatest_age(net, "oslo", "price", 8)
        self.assertEqual(age, net["oslo"].bound("price"))
        self.assertEqual(after(net, path).age("oslo", "price"), age)
        self.assertEqual(greatest_age(net, "store", "price", 8), (0, ()))

    def test_copies_that_vanish_on_the_way(self):
        net = tree(("north", "store", 2))
        net.write("price", 1)

        def steps(found):
            return [("crash", "north"), ("recover", "north"), ("deliver", "store", "north"), ("write", "price", 0)]

        for most in range(6):
            found = greatest_age(net, "north", "price", most, steps=steps)
            self.assertEqual(found, plain_greatest(net, "north", "price", most, steps))
        self.assertEqual(greatest_age(net, "north", "price", 5, steps=lambda found: [("crash", "north")]), (1, ()))

    def test_errors_in_their_order(self):
        net = Net(["price"])
        net.join("north", "store", {"price": 1})
        for name in ODD + ["lima"]:
            check_raised(self, UnknownNode, {"node": name}, greatest_age, net, name, "size", 21)
        for key in ODD + ["size"]:
            check_raised(self, UnknownKey, {"word": key}, greatest_age, net, "north", key, 21)
        check_raised(self, NoCopy, {"word": "price"}, greatest_age, net, "north", "price", 21)
        for most in ODD + [-1, 21, 22, 10**29, "3", 3.0]:
            check_raised(self, InvalidMost, {"given": most}, greatest_age, net, "store", "price", most)
        self.assertEqual(greatest_age(net=net, name="store", key="price", most=0, steps=None), (0, ()))


class LimitTest(unittest.TestCase):
    def test_most(self):
        net = Net(["price"])
        calls = []

        def goal(found):
            calls.append(found)

        for most in ODD + [-1, 21, 22, 10**29, "3", 3.0]:
            check_raised(self, InvalidMost, {"given": most}, shortest, net, goal, most)
        self.assertEqual(calls, [])
        self.assertIsNone(shortest(net=net, goal=goal, most=20, steps=None))
        self.assertEqual(len(calls), 21)
        with self.assertRaises(TypeError):
            shortest(net, goal, 1, steps_of)
        with self.assertRaises(TypeError):
            greatest_age(net, "store", "price", 1, steps_of)

    def test_three_thousand_nets_and_one_more(self):
        net = Net(["price"])
        calls = []

        def writes(many):
            return lambda found: [("write", "price", value) for value in range(many)]

        def goal(value):
            calls.clear()
            return lambda found: calls.append(1) or found["store"]["price"] == (1, value)

        self.assertIsNone(shortest(net, goal(5000), 1, steps=writes(2999)))
        self.assertEqual(len(calls), 3000)
        self.assertEqual(shortest(net, goal(2998), 1, steps=writes(2999)), (("write", "price", 2998),))
        # The goal may be the last of 3,000 nets, though more would follow.
        self.assertEqual(shortest(net, goal(2998), 1, steps=writes(4000)), (("write", "price", 2998),))
        self.assertEqual(len(calls), 3000)
        check_raised(self, LimitExceeded, {"limit": 3000}, shortest, net, goal(2999), 1, steps=writes(3000))
        self.assertEqual(len(calls), 3000)
        check_raised(self, LimitExceeded, {"limit": 3000}, greatest_age, net, "store", "price", 1, steps=writes(3000))
        self.assertEqual(greatest_age(net, "store", "price", 1, steps=writes(2999)), (0, ()))
        # Nets that were reached before are no further ones.
        twice = [("write", "price", value) for value in range(2999)] * 2
        self.assertIsNone(shortest(net, goal(5000), 1, steps=lambda found: twice))

    def test_own_steps_reach_too_many_nets(self):
        net = tree(("north", "store", (2, 2)), ("oslo", "north", (3, 3)), ("rome", "store", (2, 2)), keys=("a", "b"))
        before = inner(net)
        check_raised(self, LimitExceeded, {"limit": 3000}, shortest, net, lambda found: False, 20)
        self.assertEqual(inner(net), before)

    def test_a_goal_that_raises(self):
        net = Net(["price"])

        def goal(found):
            raise ZeroDivisionError

        before = inner(net)
        with self.assertRaises(ZeroDivisionError):
            shortest(net, goal, 3)
        self.assertEqual(inner(net), before)


if __name__ == "__main__":
    unittest.main()
