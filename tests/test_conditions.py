"""Point 19: terms, sums, comparisons, conditions, brackets and binding."""

import unittest

from slackcache.conditions import parse_condition
from slackcache.errors import InvalidCondition, InvalidOperand
from slackcache.net import Net
from tests.drawing import Draw
from tests.helpers import ODD, check_raised, inner, tree


class Text(str):
    pass


def sample():
    """A net with copies of several ages, a node without a copy, and a write that waits."""
    net = tree(("north", "store", (2, 3)), ("oslo", "north", (4, 5)), keys=("price", "size"))
    for value in (5, 6):
        net.write("price", value)
    net.deliver("store", "north")
    net.write("price", 7)
    net.join("rome", "store", {"price": 9, "size": 9})
    net.deliver("north", "store")
    net.write("price", 8)
    net.write("price", 9)
    return net


def holds(net, text):
    return parse_condition(text)(net)


def check_value(case, net, term, value):
    """Check that a term has just this value (None for no value) in every place and with every sign."""
    if value is None:
        for sign in ("<", "<=", "=", "!=", ">=", ">"):
            for text in (f"{term} {sign} 0", f"0 {sign} {term}", f"{term} {sign} {term}", f"0 {sign} 1 + {term}",
                         f"1 - {term} {sign} 0"):
                case.assertIs(holds(net, text), False, text)
                case.assertIs(holds(net, f"not {text}"), True, text)
        return
    for sign, wanted in (("<", (0, 0, 1)), ("<=", (0, 1, 1)), ("=", (0, 1, 0)), ("!=", (1, 0, 1)),
                         (">=", (1, 1, 0)), (">", (1, 0, 0))):
        for shift, want in zip((-1, 0, 1), wanted):
            case.assertIs(holds(net, f"{term} {sign} {value + shift}"), bool(want), (term, sign, shift))
            case.assertIs(holds(net, f"not {term} {sign} {value + shift}"), not want)


class TermTest(unittest.TestCase):
    def test_each_term(self):
        net = sample()
        for name, copy, age, bound, told, allowance in (
            ("store", net["store"]["price"][0], 0, 0, net.number("price"), 0),
            ("north", net["north"]["price"][0], net.age("north", "price"), net["north"].bound("price"),
             net["north"].told("price"), 2),
            ("oslo", 0, net.number("price"), 4, 0, 4),
        ):
            check_value(self, net, f"copy {name} price", copy)
            check_value(self, net, f"age {name} price", age)
            check_value(self, net, f"bound {name} price", bound)
            check_value(self, net, f"told {name} price", told)
            check_value(self, net, f"allowance {name} price", allowance)
        self.assertEqual([net.number("price"), net["north"]["price"][0]], [3, 1])
        check_value(self, net, "number price", 3)
        check_value(self, net, "number size", 0)
        check_value(self, net, "waiting price", 2)
        check_value(self, net, "waiting size", 0)
        check_value(self, net, "nodes", 4)
        check_value(self, net, "sent store rome", 3)
        check_value(self, net, "sent north oslo", 1)
        check_value(self, net, "sent rome store", 0)
        for integer in (0, 7, -7, 10**29, -10**29):
            check_value(self, net, str(integer), integer)

    def test_terms_without_a_value(self):
        net = sample()
        check_value(self, net, "number age", None)
        check_value(self, net, "waiting north", None)
        for term in ("copy", "age", "bound", "told", "allowance"):
            check_value(self, net, f"{term} rome price", None)
            check_value(self, net, f"{term} lima price", None)
            check_value(self, net, f"{term} north age", None)
            check_value(self, net, f"{term} store north", None)

    def test_links_that_there_are_not(self):
        net = sample()
        for link in ("lima store", "oslo store", "store store", "price size", "rome north"):
            check_value(self, net, f"sent {link}", 0)

    def test_there(self):
        net = sample()
        for name in ("store", "north", "rome"):
            self.assertIs(holds(net, f"there {name}"), True)
            self.assertIs(holds(net, f"not there {name}"), False)
        self.assertIs(holds(net, "there lima"), False)
        net.crash("north")
        self.assertIs(holds(net, "there oslo"), False)

    def test_sums(self):
        net = sample()
        for text, value in (("1 + 2 - 4", -1), ("1 - 2 + 4", 3), ("1 - 2 - 4", -5), ("1 - -2", 3), ("-1 + -2", -3),
                            ("number price + number price - waiting price + 10", 14), ("nodes - nodes", 0)):
            check_value(self, net, text, value)
        self.assertTrue(holds(net, "1 + 2 = 5 - 2"))
        self.assertTrue(holds(net, "age north price <= bound north price"))

    def test_words_that_mean_something_elsewhere(self):
        net = tree(("not", "store", 3), ("there", "store", 3), keys=("number",))
        check_value(self, net, "number number", 0)
        check_value(self, net, "age not number", 0)
        check_value(self, net, "sent there store", 0)
        self.assertTrue(holds(net, "there there and there not"))
        self.assertTrue(holds(net, "there not and not there and and 1 = 1") is True)
        check_value(self, net, "number and", None)


class BindingTest(unittest.TestCase):
    def test_binding_by_hand(self):
        net = Net(["price"])
        yes, no = "0 = 0", "0 = 1"
        for text, want in (
            (f"{yes} or {yes} and {no}", True), (f"( {yes} or {yes} ) and {no}", False),
            (f"{no} and {no} or {yes}", True), (f"{no} and ( {no} or {yes} )", False),
            (f"not {no} or {yes}", True), (f"not ( {no} or {yes} )", False),
            (f"not {yes} and {no}", False), (f"not ( {yes} and {no} )", True),
            (f"not not {yes}", True), (f"not not not {yes}", False),
            (f"not {no} and not {no}", True), (f"{yes} and not ( {yes} )", False),
        ):
            self.assertIs(holds(net, text), want, text)

    def test_text_with_as_few_brackets_as_possible(self):
        for text, want in (
            ("( 0 = 0 )", "0 = 0"),
            ("( ( 0 = 0 ) )", "0 = 0"),
            ("( there a and there b ) and there c", "there a and there b and there c"),
            ("there a and ( there b and there c )", None),
            ("( there a or there b ) or there c", "there a or there b or there c"),
            ("there a or ( there b or there c )", None),
            ("( there a and there b ) or there c", "there a and there b or there c"),
            ("there a or ( there b and there c )", "there a or there b and there c"),
            ("( there a or there b ) and there c", None),
            ("there a and ( there b or there c )", None),
            ("not ( there a )", "not there a"),
            ("not ( not there a )", "not not there a"),
            ("not ( there a and there b )", None),
            ("( not there a ) and ( there b )", "not there a and there b"),
            ("-3 + 4 < number a - -5", None),
        ):
            found = parse_condition(text)
            self.assertEqual(found.text, want or text)
            self.assertEqual(parse_condition(found.text), found)

    def test_drawn_conditions(self):
        net = sample()
        leaves = ["0 = 0", "1 = 2", "there north", "there lima", "age lima price = 0", "number price - 1 > waiting price"]
        for seed in range(400):
            draw = Draw(seed)
            shape = draw_shape(draw, leaves, 4)
            found = parse_condition(full_text(draw, shape))
            self.assertEqual(found.text, least_text(shape)[0])
            self.assertIs(found(net), value_of(net, shape))
            self.assertEqual(joined(shape), found)
            self.assertEqual(joined(shape).text, found.text)
            self.assertIs(joined(shape)(net), value_of(net, shape))
            again = parse_condition(found.text)
            self.assertEqual((again, again.text), (found, found.text))


def draw_shape(draw, leaves, depth):
    kind = draw.below(4) if depth else 3
    if kind == 3:
        return draw.pick(leaves)
    if kind == 2:
        return ("not", draw_shape(draw, leaves, depth - 1))
    return (("and", "or")[kind], draw_shape(draw, leaves, depth - 1), draw_shape(draw, leaves, depth - 1))


def full_text(draw, shape):
    """A text with all brackets, and some more."""
    if isinstance(shape, str):
        text = shape
    elif shape[0] == "not":
        text = f"not ( {full_text(draw, shape[1])} )"
    else:
        text = f"( {full_text(draw, shape[1])} ) {shape[0]} ( {full_text(draw, shape[2])} )"
    return f"( {text} )" if draw.below(5) == 0 else text


def least_text(shape):
    """The text with as few brackets as possible, and how much it binds."""
    if isinstance(shape, str):
        return (shape, 3)
    if shape[0] == "not":
        text, binds = least_text(shape[1])
        return (f"not {text}" if binds >= 2 else f"not ( {text} )", 2)
    level = 1 if shape[0] == "and" else 0
    one, left = least_text(shape[1])
    other, right = least_text(shape[2])
    one = one if left >= level else f"( {one} )"
    # "and" and "or" join from the left, so the same one behind needs brackets.
    other = other if right > level else f"( {other} )"
    return (f"{one} {shape[0]} {other}", level)


def value_of(net, shape):
    if isinstance(shape, str):
        return parse_condition(shape)(net)
    if shape[0] == "not":
        return not value_of(net, shape[1])
    one, other = value_of(net, shape[1]), value_of(net, shape[2])
    return (one and other) if shape[0] == "and" else (one or other)


def joined(shape):
    if isinstance(shape, str):
        return parse_condition(shape)
    if shape[0] == "not":
        return ~joined(shape[1])
    if shape[0] == "and":
        return joined(shape[1]) & joined(shape[2])
    return joined(shape[1]) | joined(shape[2])


class FormTest(unittest.TestCase):
    def refuse(self, text):
        check_raised(self, InvalidCondition, {"given": text}, parse_condition, text)

    def test_texts_that_are_none(self):
        good = ["0 = 0", "not there north", "( 0 < 1 ) and there a", "age a b - 1 != -5 or sent a b > 0"]
        for text in good:
            parse_condition(text)
            for bad in (" " + text, text + " ", text.replace(" ", "  ", 1), text + "\n", text.replace(" ", "\t", 1),
                        text + " and", "and " + text, text + " " + text, text + " )", "( " + text, text + " not",
                        "not", text + " or or " + text, text + " and or " + text, "( )", text.upper() + " x"):
                self.refuse(bad)
            words = text.split(" ")
            for at in range(len(words)):
                # Without a word, most texts are none; those that are conditions are written otherwise.
                shorter = " ".join(words[:at] + words[at + 1:])
                try:
                    self.assertNotEqual(parse_condition(shorter).text, parse_condition(text).text)
                except InvalidCondition:
                    pass

    def test_bad_terms_and_sums(self):
        for text in (
            "", " ", "0", "0 = ", "= 0", "0 == 0", "0 =0", "0=0", "0 = 0 = 0", "0 < 1 < 2", "0 <> 1", "1 + = 1",
            "+ 1 = 1", "- 1 = -1", "1 - - 1 = 2", "1 + - 1 = 0", "1 + + 1 = 2", "1 -1 = 0", "( 1 + 1 ) = 2",
            "1 = ( 1 )", "not 1", "there", "there north south", "there 5", "there North", "number = 0", "number a b = 0",
            "waiting = 0", "nodes a = 0", "sent a = 0", "sent a b c = 0", "copy a = 0", "age a = 0", "bound price = 0",
            "told 1 2 = 0", "allowance a b c = 0", "value a b = 0", "number abcdefghi = 0", "price = 0", "1 * 1 = 1",
            "1 = 1 & 1 = 1", "1 = 1 AND 1 = 1", "! 1 = 1", "1 = 1 and not", "not and 1 = 1",
        ):
            self.refuse(text)

    def test_integers(self):
        for word in ("00", "01", "-0", "-01", "-", "--1", "+1", "1.0", "1e3", "1_000", "\u0661", "\u00b2", "0x1", "a1"):
            self.refuse(f"0 = {word}")
            self.refuse(f"{word} = 0")
            self.refuse(f"0 - {word} = 0")
        for word in ("0", "-1", "10", "-10", "9" * 30):
            self.assertEqual(parse_condition(f"0 = {word}").text, f"0 = {word}")

    def test_brackets_twenty_and_twenty_one_deep(self):
        for deep in (1, 19, 20):
            self.assertEqual(parse_condition("( " * deep + "0 = 0" + " )" * deep).text, "0 = 0")
        for deep in (21, 22, 100):
            self.refuse("( " * deep + "0 = 0" + " )" * deep)
        # Brackets that are closed again count no more, and no less.
        for before in ("( 0 = 0 ) and ", "( ( 0 = 0 ) ) and ( 0 = 0 ) and "):
            parse_condition(before + "( " * 20 + "0 = 0" + " )" * 20)
            self.refuse(before + "( " * 21 + "0 = 0" + " )" * 21)
        text = "( 0 = 0 ) and " * 30 + "0 = 0"
        self.assertTrue(parse_condition(text)(Net(["a"])))
        self.refuse("( " * 20 + "0 = 0" + " )" * 19)
        self.refuse("( " * 19 + "0 = 0" + " )" * 20)

    def test_a_thousand_and_a_thousand_and_one_characters(self):
        start = "0 = 0 or " * 100
        for length, fits in ((999, True), (1000, True), (1001, False), (5000, False)):
            text = start + "0 = 1" + "0" * (length - len(start) - 5)
            self.assertEqual(len(text), length)
            if fits:
                self.assertEqual(parse_condition(text).text, text)
            else:
                self.refuse(text)
        # Deep in one way or the other, but short enough.
        self.assertTrue(parse_condition("not " * 248 + "0 = 0")(Net(["a"])))
        parse_condition(" + ".join(["1"] * 248) + " = 248")(Net(["a"]))

    def test_objects_that_are_no_texts(self):
        for odd in ODD + [5, ["0 = 0"], ("0", "=", "0"), b"0 = 0", parse_condition("0 = 0")]:
            self.refuse(odd)
        check_raised(self, InvalidCondition, {"given": None}, lambda: parse_condition(text=None))
        self.assertEqual(parse_condition(text="0 = 0").text, "0 = 0")


class JoinTest(unittest.TestCase):
    def test_operands(self):
        one = parse_condition("0 = 0")
        before = inner(one)
        for odd in ODD + ["0 = 0", 1, True]:
            check_raised(self, InvalidOperand, {"given": odd}, lambda: one & odd)
            check_raised(self, InvalidOperand, {"given": odd}, lambda: one | odd)
        self.assertEqual(inner(one), before)

    def test_joins_change_nothing(self):
        one, other = parse_condition("there a or there b"), parse_condition("there c or there d")
        before = (inner(one), inner(other))
        self.assertEqual((one & other).text, "( there a or there b ) and ( there c or there d )")
        self.assertEqual((one | other).text, "there a or there b or ( there c or there d )")
        self.assertEqual((~one).text, "not ( there a or there b )")
        self.assertEqual((~~one).text, "not not ( there a or there b )")
        self.assertEqual((one & one & one).text, " and ".join(["( there a or there b )"] * 3))
        self.assertEqual((inner(one), inner(other)), before)

    def test_joined_texts_may_be_longer_and_deeper(self):
        net = Net(["a"])
        found = parse_condition("0 = 0 and " * 99 + "0 = 0")
        longer = found | found
        self.assertGreater(len(longer.text), 1000)
        self.assertTrue(longer(net))
        deep = parse_condition("0 = 1")
        for _ in range(50):
            deep = parse_condition("0 = 0") & (parse_condition("0 = 1") | deep)
        self.assertEqual(deep.text.count("("), 50)
        self.assertFalse(deep(net))
        self.assertTrue((~deep)(net))

    def test_equality(self):
        one = parse_condition("there a")
        self.assertEqual(one, parse_condition("( there a )"))
        self.assertNotEqual(one, parse_condition("there b"))
        self.assertNotEqual(parse_condition("there a and ( there b and there c )"),
                            parse_condition("there a and there b and there c"))
        self.assertEqual(one & one, parse_condition("there a and there a"))
        for odd in ["there a", None, 0, Net(["a"])]:
            self.assertFalse(one == odd)
            self.assertTrue(one != odd)

    def test_a_call_changes_nothing(self):
        net = sample()
        before = inner(net)
        found = parse_condition("age north price > 0 and not there lima or sent store north = 0")
        self.assertIs(found(net), True)
        self.assertIs(found(net=net), True)
        self.assertEqual(inner(net), before)


if __name__ == "__main__":
    unittest.main()
