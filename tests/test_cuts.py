"""Point 12 and guarantee (h): moments, cuts, distance, spread, seen, and keys that bar a spread."""

import unittest

from slackcache.cuts import Cut, check_bar, find_bar
from slackcache.errors import InvalidCut, InvalidMoment, InvalidOperand, InvalidOrder
from slackcache.net import Net
from tests.drawing import Draw
from tests.helpers import ODD, Hostile, check_raised, inner

WORDS = ["b", "a", "d", "c", "e"]


def numbers_at(order, keys, moment):
    return {key: list(order[:moment]).count(key) for key in keys}


def gaps(order, numbers):
    """The distances from all moments, by looking at each of them."""
    found = []
    for moment in range(len(order) + 1):
        there = numbers_at(order, numbers, moment)
        found.append(max(abs(numbers[key] - there[key]) for key in numbers))
    return found


def bars(order, numbers, one, other, spread):
    """Whether two keys bar a spread, by looking at each moment."""
    for moment in range(len(order) + 1):
        there = numbers_at(order, (one, other), moment)
        if max(abs(numbers[key] - there[key]) for key in (one, other)) <= spread:
            return False
    return True


def check_cut(case, order, numbers):
    """Check all that a cut shows against a look at all moments."""
    cut = Cut(order, numbers)
    found = gaps(order, numbers)
    case.assertEqual([cut.distance(moment) for moment in range(len(order) + 1)], found)
    case.assertEqual((cut.spread, cut.nearest), (min(found), found.index(min(found))))
    seen = [moment for moment, gap in enumerate(found) if gap == 0]
    case.assertEqual(cut.seen, (seen[0], seen[-1]) if seen else None)
    case.assertEqual((cut.order, cut.numbers, len(cut)), (tuple(order), numbers, len(numbers)))
    bar = find_bar(cut)
    if cut.spread == 0:
        case.assertIsNone(bar)
    else:
        case.assertIs(type(bar), tuple)
        case.assertTrue(bars(order, numbers, *bar, cut.spread - 1))
    case.assertIs(check_bar(cut, bar), True)
    case.assertIs(check_bar(cut, None), cut.spread == 0)
    for one in numbers:
        for other in numbers:
            expected = cut.spread > 0 and bars(order, numbers, one, other, cut.spread - 1)
            case.assertIs(check_bar(cut, (one, other)), expected)
    return cut


class SmallTest(unittest.TestCase):
    def test_an_order_without_writes(self):
        for numbers in ({"a": 0}, {"a": 0, "b": 0}):
            cut = check_cut(self, [], numbers)
            self.assertEqual((cut.spread, cut.nearest, cut.seen, cut.order), (0, 0, (0, 0), ()))
        check_raised(self, InvalidCut, {"given": {"a": 1}}, Cut, (), {"a": 1})

    def test_an_order_of_one_write(self):
        self.assertEqual(check_cut(self, ["a"], {"a": 0}).seen, (0, 0))
        self.assertEqual(check_cut(self, ["a"], {"a": 1}).seen, (1, 1))
        self.assertEqual(check_cut(self, ["a"], {"b": 0}).seen, (0, 1))
        self.assertEqual(check_cut(self, ["a"], {"b": 0, "a": 1}).seen, (1, 1))

    def test_all_cuts_of_all_short_orders(self):
        spreads = {}
        for length in range(6):
            for number in range(3**length):
                order = [WORDS[number // 3**place % 3] for place in range(length)]
                last = numbers_at(order, WORDS[:3], length)
                for a in range(last["a"] + 1):
                    for b in range(last["b"] + 1):
                        for d in range(last["d"] + 1):
                            cut = check_cut(self, order, {"a": a, "b": b, "d": d})
                            spreads[cut.spread] = spreads.get(cut.spread, 0) + 1
        self.assertEqual(sorted(spreads), [0, 1, 2])

    def test_the_words_of_the_document(self):
        order = ("price", "price", "size", "price")
        cut = Cut(order, {"price": 3, "size": 0})
        self.assertEqual([cut.distance(moment) for moment in range(5)], [3, 2, 1, 1, 1])
        self.assertEqual((cut.spread, cut.nearest, cut.seen), (1, 2, None))
        self.assertEqual(Cut(order, {"price": 2}).seen, (2, 3))
        self.assertEqual(Cut(order, {"price": 3}).seen, (4, 4))
        self.assertEqual(Cut(order, {"size": 0}).seen, (0, 2))


class DrawnTest(unittest.TestCase):
    def test_drawn_orders(self):
        draw = Draw(12)
        spreads = {}
        for turn in range(400):
            keys = WORDS[:1 + draw.below(5)]
            pool = keys + WORDS[:draw.below(4)]
            order = tuple(draw.pick(pool) for _ in range(draw.below(40)))
            # Some keys are never written, some are not asked for.
            chosen = [key for key in WORDS if draw.below(3)] or ["a"]
            numbers = {key: draw.below(order.count(key) + 1) for key in chosen}
            cut = check_cut(self, order, numbers)
            spreads[cut.spread] = spreads.get(cut.spread, 0) + 1
        self.assertTrue(all(spreads.get(spread, 0) > 10 for spread in range(5)), spreads)

    def test_greater_spreads(self):
        for many in (1, 2, 5, 9, 40):
            order = ["a"] * many + ["b"] * many
            cut = check_cut(self, order, {"a": 0, "b": many})
            self.assertEqual((cut.spread, cut.nearest), (many, 0))
            self.assertEqual(sorted(find_bar(cut)), ["a", "b"])

    def test_the_greatest_order(self):
        order = ["a", "b"] * 2500
        cut = Cut(order, {"a": 2500, "b": 0, "c": 0})
        self.assertEqual((cut.spread, cut.seen, cut.distance(0), cut.distance(5000)), (1250, None, 2500, 2500))
        self.assertEqual(sorted(find_bar(cut)), ["a", "b"])
        self.assertEqual(Cut(order, {"a": 1200, "b": 1200}).seen, (2400, 2400))

    def test_many_keys(self):
        order = [one + other + third for one in "abcdefghij" for other in "abcdefghij" for third in "abcdefghij"]
        cut = Cut(order, {key: 1 for key in order})
        self.assertEqual((cut.spread, cut.seen, len(cut)), (0, (1000, 1000), 1000))
        cut = Cut(order, {key: at % 2 for at, key in enumerate(order)})
        self.assertEqual((cut.spread, cut.nearest), (1, 0))
        one, other = find_bar(cut)
        self.assertTrue(bars(order, cut.numbers, one, other, 0))

    def test_orders_of_nets(self):
        net = Net(["size", "price"])
        for key in ("price", "size", "price"):
            net.write(key, 5)
        self.assertEqual(Cut(net.order, {"price": 1, "size": 1}).seen, (2, 2))


class BarTest(unittest.TestCase):
    def test_objects_that_are_no_bar(self):
        order = ["a", "b"]
        cut = Cut(order, {"a": 0, "b": 1, "c": 0})
        self.assertEqual(cut.spread, 1)
        self.assertIs(check_bar(cut, ("a", "b")), True)
        self.assertIs(check_bar(cut, ("b", "a")), True)
        for obj in [
            *ODD, ["a", "b"], ("a",), ("a", "b", "c"), ("a", "a"), ("b", "b"), ("a", "c"), ("c", "b"), ("a", "d"),
            ("d", "e"), "ab", ("a", None), ("a", ["b"]), (Hostile(), Hostile()), ("a", Hostile()), {"a": 1, "b": 1},
            (("a", "b"),),
        ]:
            self.assertIs(check_bar(cut, obj), False)
        seen = Cut(order, {"a": 1, "b": 0})
        self.assertIs(check_bar(seen, None), True)
        for obj in [*ODD[1:], ("a", "b"), (), False, 0]:
            self.assertIs(check_bar(seen, obj), False)

    def test_bars_do_not_hang_on_letters_or_on_the_order_of_a_dict(self):
        draw = Draw(7)
        turn = {"a": "zz", "b": "q", "c": "b", "d": "ab"}
        for _ in range(100):
            order = [draw.pick("abcd") for _ in range(20)]
            numbers = {key: draw.below(order.count(key) + 1) for key in "abcd"}
            backwards = {key: numbers[key] for key in reversed(list(numbers))}
            bar = find_bar(Cut(order, numbers))
            self.assertEqual(find_bar(Cut(order, backwards)), bar)
            other = find_bar(Cut([turn[key] for key in order], {turn[key]: numbers[key] for key in numbers}))
            self.assertEqual(other, bar if bar is None else tuple(turn[key] for key in bar))


class SignTest(unittest.TestCase):
    def test_greater_and_lesser_numbers(self):
        order = ["a", "b", "a", "c", "a"]
        one, other = Cut(order, {"a": 3, "b": 0, "z": 0}), Cut(tuple(order), {"z": 0, "b": 1, "a": 1})
        before = (inner(one), inner(other))
        self.assertEqual((one | other).numbers, {"a": 3, "b": 1, "z": 0})
        self.assertEqual((one & other).numbers, {"a": 1, "b": 0, "z": 0})
        self.assertEqual((one | other).seen, (5, 5))
        self.assertEqual((one & other).seen, (1, 1))
        self.assertEqual(((one | other).order, (one & other).order), (tuple(order), tuple(order)))
        self.assertEqual((one | other, one & other), (other | one, other & one))
        self.assertEqual((one | one, one & one), (one, one))
        self.assertEqual((inner(one), inner(other)), before)

    def test_drawn_pairs(self):
        draw = Draw(3)
        for _ in range(200):
            order = [draw.pick(WORDS) for _ in range(draw.below(15))]
            keys = WORDS[:1 + draw.below(4)]
            rows = [{key: draw.below(order.count(key) + 1) for key in keys} for _ in range(2)]
            one, other = [Cut(order, row) for row in rows]
            both = (one | other, one & other)
            for cut, choose in zip(both, (max, min)):
                self.assertEqual(cut, Cut(order, {key: choose(rows[0][key], rows[1][key]) for key in keys}))
                check_cut(self, order, cut.numbers)

    def test_wrong_operands(self):
        cut = Cut(["a", "b"], {"a": 1, "b": 1})
        wrong = [
            Cut(["b", "a"], {"a": 1, "b": 1}), Cut(["a", "b", "a"], {"a": 1, "b": 1}), Cut(["a", "b"], {"a": 1}),
            Cut(["a", "b"], {"a": 1, "b": 1, "c": 0}), Cut(["a", "b"], {"a": 1, "c": 0}), {"a": 1, "b": 1},
        ]
        for other in [*ODD, *wrong]:
            check_raised(self, InvalidOperand, {"given": other}, lambda: cut | other)
            check_raised(self, InvalidOperand, {"given": other}, lambda: cut & other)

    def test_equality_and_length(self):
        cut = Cut(["a", "b"], {"a": 1, "b": 0})
        self.assertTrue(cut == Cut(("a", "b"), {"b": 0, "a": 1}))
        self.assertFalse(cut != Cut(("a", "b"), {"b": 0, "a": 1}))
        for other in [
            Cut(["b", "a"], {"a": 1, "b": 0}), Cut(["a", "b"], {"a": 1, "b": 1}), Cut(["a", "b"], {"a": 1}),
            Cut(["a", "b"], {"a": 1, "b": 0, "c": 0}), ("a", "b"), {"a": 1, "b": 0}, None, 2, cut.order, cut.numbers,
        ]:
            self.assertFalse(cut == other)
            self.assertTrue(cut != other)
        self.assertEqual((len(cut), len(Cut([], {"c": 0}))), (2, 1))


class WrongTest(unittest.TestCase):
    def test_orders(self):
        for order in [
            obj for obj in ODD if not isinstance(obj, (list, tuple))
        ] + [
            "ab", ["a", "B"], ["a", ""], ["ninechars"], ["a", None], ["a", 1], ["a", True], [["a"]], ("a", ("b",)),
            {"a": 1}, [Hostile()], ["a", Hostile()], iter(["a"]), ["a"] * 5001, ("a",) * 5001, [b"a"],
        ]:
            for numbers in ({"a": 0}, None, Hostile()):
                check_raised(self, InvalidOrder, {"given": order}, Cut, order, numbers)
        self.assertEqual(Cut(("a",) * 5000, {"a": 5000}).seen, (5000, 5000))

    def test_numbers(self):
        order = ["a", "b", "a"]
        for numbers in [
            *ODD, {}, {"a": 3}, {"a": -1}, {"b": 2}, {"c": 1}, {"a": 1, "b": 2}, {"a": True}, {"b": False}, {"a": "1"},
            {"a": None}, {"a": 1.0}, {"a": [1]}, {"A": 0}, {"": 0}, {1: 0}, {None: 0}, {("a",): 0}, {"ninechars": 0},
            {"a": 1, 5: 0}, [("a", 1)], ("a",), {"a"}, {"a": Hostile()}, {"a": 10**29}, {"a": -(10**29)},
        ]:
            check_raised(self, InvalidCut, {"given": numbers}, Cut, order, numbers)
        self.assertEqual(Cut(order, {"a": 2, "b": 1, "eightlet": 0}).seen, (3, 3))

    def test_moments(self):
        cut = Cut(["a", "b", "a"], {"a": 2})
        self.assertEqual([cut.distance(moment) for moment in range(4)], [2, 1, 1, 0])
        for moment in [*ODD, -1, 4, 10**20, "0", "1"]:
            check_raised(self, InvalidMoment, {"given": moment}, cut.distance, moment)
        check_raised(self, InvalidMoment, {"given": 1}, Cut([], {"a": 0}).distance, 1)


if __name__ == "__main__":
    unittest.main()
