"""Point 26: texts of deeds, histories, cuts, tokens and receipts."""

import unittest

from slackcache.cuts import Cut
from slackcache.errors import CacheError, InvalidKeys, InvalidOrder, InvalidText
from slackcache.net import Net
from slackcache.receipts import receipt_of
from slackcache.sessions import Token
from slackcache.texts import (
    format_cut, format_deed, format_history, format_receipt, format_token, parse_cut, parse_deed, parse_history,
    parse_receipt, parse_token,
)
from tests.drawing import WEIGHTS, Draw, draw_deed
from tests.helpers import ODD, check_raised, inner

KEYS = ["price", "size"]
DEEDS = [
    (("join", "north", "store", (("price", 2), ("size", 30))), "join north store 2 30"),
    (("write", "price", 5), "write price 5"), (("write", "cost", -5), "write cost -5"),
    (("read", "north", "price", 3, 0), "read north price 3 0"), (("read", "a", "b", -1, 10**29), f"read a b -1 {10**29}"),
    (("change", "north", "size", 99), "change north size 99"), (("deliver", "north", "store"), "deliver north store"),
    (("leave", "north"), "leave north"), (("crash", "store"), "crash store"), (("forget", "north"), "forget north"),
    (("recover", "north"), "recover north"),
]


def variants(text):
    """The text with one character changed, left out, doubled or put in, and with parts exchanged."""
    for at in range(len(text) + 1):
        for sign in " 0159-az=\nZ\t;+.\u0661":
            yield text[:at] + sign + text[at:]
            if at < len(text):
                yield text[:at] + sign + text[at + 1:]
        if at < len(text):
            yield text[:at] + text[at + 1:]
            yield text[:at + 1] + text[at:]
    yield " ".join(text.split(" ")[::-1])
    yield "\n".join(text.split("\n")[::-1])
    yield text + text
    yield text + "\n" + text
    yield text.upper()


def check_texts(case, text, read, write):
    """Check that each variant is refused, or is the very text of what is read from it."""
    counts = [0, 0]
    for changed in variants(text):
        try:
            found = read(changed)
        except InvalidText as error:
            case.assertIs(error.given, changed)
            counts[0] += 1
            continue
        counts[1] += 1
        case.assertEqual(write(found), changed)
        if changed != text:
            case.assertNotEqual(inner(found), inner(read(text)))
    case.assertGreater(counts[0], 10)


def refuse(case, given, read):
    check_raised(case, InvalidText, {"given": given}, read, given)


class DeedTest(unittest.TestCase):
    def test_each_deed(self):
        for deed, text in DEEDS:
            self.assertEqual(format_deed(deed), text)
            self.assertEqual(parse_deed(text, KEYS), deed)
            self.assertEqual(inner(parse_deed(text, tuple(KEYS))), inner(deed))
            check_texts(self, text, lambda changed: parse_deed(changed, KEYS), format_deed)

    def test_as_many_allowances_as_keys(self):
        for many in range(1, 5):
            keys = ["a", "b", "c", "d"][:many]
            for given in range(7):
                text = " ".join(["join", "north", "store"] + ["5"] * given)
                if given == many:
                    self.assertEqual(parse_deed(text, keys), ("join", "north", "store", tuple((key, 5) for key in keys)))
                else:
                    refuse(self, text, lambda text: parse_deed(text, keys))

    def test_other_texts(self):
        for text in ("", " ", "write", "write price", "write price 5 6", "Write price 5", "drain", "write price 05",
                     "write price -0", "write price +5", "write price 5\n", "write price five", "write 5 price",
                     "leave", "leave north south", "deliver north", "copy north price", "price=4", "-", "end"):
            refuse(self, text, lambda text: parse_deed(text, KEYS))
        for odd in ODD + [5, ("write", "price", 5), ["write price 5"], b"write price 5"]:
            refuse(self, odd, lambda odd: parse_deed(odd, KEYS))
            refuse(self, odd, lambda odd: parse_deed(text=odd, keys=KEYS))

    def test_keys_come_first(self):
        for keys in ODD + [["price", "price"], "price", ["a", "b", "c", "d", "e"]]:
            if not isinstance(keys, (list, tuple)) or inner(keys) not in (inner(["price"]), inner(("price",))):
                check_raised(self, InvalidKeys, {"given": keys}, parse_deed, None, keys)
                check_raised(self, InvalidKeys, {"given": keys}, parse_history, None, keys)


class HistoryTest(unittest.TestCase):
    def test_histories(self):
        deeds = [deed for deed, _ in DEEDS]
        text = "\n".join(line for _, line in DEEDS)
        self.assertEqual(format_history(deeds), text)
        self.assertEqual(format_history(tuple(deeds)), text)
        self.assertEqual(parse_history(text, KEYS), tuple(deeds))
        self.assertEqual(format_history([]), "")
        self.assertEqual(format_history(()), "")
        self.assertEqual(parse_history("", KEYS), ())
        self.assertEqual(parse_history(keys=("a",), text=""), ())
        self.assertEqual(format_history(history=[("leave", "a")]), "leave a")
        self.assertEqual(format_deed(deed=("leave", "a")), "leave a")

    def test_texts_that_are_none(self):
        for text in ("\n", "leave a\n", "\nleave a", "leave a\n\nleave b", "leave a\nleave", "leave a leave b", " ", "-",
                     "leave a\r\nleave b", "join a store 1", "leave a\njoin a store 1 2 3"):
            refuse(self, text, lambda text: parse_history(text, KEYS))
        for odd in ODD:
            if odd is None or not isinstance(odd, str) or odd:
                refuse(self, odd, lambda odd: parse_history(odd, KEYS))

    def test_drawn_histories(self):
        for seed in range(40):
            draw = Draw(seed)
            net = Net(["a", "b", "c"][:1 + draw.below(3)])
            for _ in range(60):
                try:
                    net.perform(draw_deed(draw, net, WEIGHTS[seed % len(WEIGHTS)]))
                except CacheError:
                    pass
            text = format_history(net.history)
            found = parse_history(text, net.key_names)
            self.assertEqual(inner(found), inner(net.history))
            self.assertEqual(Net.replay(net.key_names, found), net)
            if seed < 3:
                short = format_history(net.history[:4])
                check_texts(self, short, lambda changed: parse_history(changed, net.key_names), format_history)


class TokenTest(unittest.TestCase):
    def test_tokens(self):
        for floors, text in (
            ({}, "-"), ({"price": 0}, "-"), ({"price": 4}, "price=4"), ({"size": 2, "price": 4}, "price=4 size=2"),
            ({"b": 1, "a": 0, "c": 10**29}, f"b=1 c={10**29}"), ({"ab": 1, "a": 2, "b": 3}, "a=2 ab=1 b=3"),
        ):
            self.assertEqual(format_token(Token(floors)), text)
            self.assertEqual(parse_token(text), Token(floors))
            check_texts(self, text, parse_token, format_token)
        self.assertEqual(format_token(token=parse_token(text="a=1")), "a=1")

    def test_texts_that_are_none(self):
        for text in ("", " ", "--", "- ", "price=0", "price=-1", "price=04", "size=2 price=4", "price=4 price=4",
                     "price=4  size=2", "price=4 size=0", "price = 4", "price=4=4", "price", "=4", "price=", "4=price",
                     "price=4\nsize=2", "- price=4", "price=4 -", "price=4,size=2", "Price=4", "write price 5"):
            refuse(self, text, parse_token)
        for odd in ODD + [Token({}), {"price": 4}, 5]:
            refuse(self, odd, parse_token)

    def test_drawn_tokens(self):
        for seed in range(100):
            draw = Draw(seed)
            words = ["".join(draw.pick("abc") for _ in range(1 + draw.below(8))) for _ in range(draw.below(9))]
            token = Token({word: draw.below(12) for word in words})
            self.assertEqual(parse_token(format_token(token)), token)


class CutTest(unittest.TestCase):
    ORDER = ["price", "price", "size", "price"]

    def test_cuts(self):
        for numbers, text in (
            ({"price": 3, "size": 0}, "price=3 size=0"), ({"size": 1}, "size=1"), ({"cost": 0}, "cost=0"),
            ({"size": 1, "cost": 0, "price": 0}, "cost=0 price=0 size=1"),
        ):
            for order in (self.ORDER, tuple(self.ORDER)):
                cut = Cut(order, numbers)
                self.assertEqual(format_cut(cut), text)
                self.assertEqual(parse_cut(text, order), cut)
            check_texts(self, text, lambda changed: parse_cut(changed, self.ORDER), format_cut)
        self.assertEqual(format_cut(cut=parse_cut(order=["a"], text="a=1")), "a=1")

    def test_texts_that_are_none(self):
        for text in ("", "-", " ", "price=4", "price=-1", "size=2", "cost=1", "price=01", "size=0 price=3",
                     "price=3 price=3", "price=3 size=0 ", "price=3  size=0", "price", "price=3\nsize=0", "price:3"):
            refuse(self, text, lambda text: parse_cut(text, self.ORDER))
        for odd in ODD + [Cut(self.ORDER, {"size": 1}), {"price": 3}]:
            refuse(self, odd, lambda odd: parse_cut(odd, self.ORDER))

    def test_the_order_comes_first(self):
        for order in [None, "price", {}, ["Price"], [1], ["a"] * 5001, {"a"}, 5, True, [["a"]]]:
            check_raised(self, InvalidOrder, {"given": order}, parse_cut, None, order)
        self.assertEqual(parse_cut("a=0", []).numbers, {"a": 0})
        self.assertEqual(parse_cut("a=5000", ["a"] * 5000).numbers, {"a": 5000})


class ReceiptTest(unittest.TestCase):
    def test_receipts(self):
        for receipt, text in (
            (("price", 2, 0, 0, (("north", 0, 2, 0, 2), ("store", 1))), "price 2 0 0\nnorth 0 2 0 2\nstore 1"),
            (("a", 0, 5, 10**29, (("store", 7),)), f"a 0 5 {10**29}\nstore 7"),
            # Of the form of a receipt, though the judge does not accept it.
            (("a", 1, 2, 3, (("b", 1, 2, 3, 4), ("b", 5, 6, 7, 8), ("store", 9, 9, 9, 9), ("store", 0))),
             "a 1 2 3\nb 1 2 3 4\nb 5 6 7 8\nstore 9 9 9 9\nstore 0"),
        ):
            self.assertEqual(format_receipt(receipt), text)
            self.assertEqual(inner(parse_receipt(text)), inner(receipt))
            check_texts(self, text, parse_receipt, format_receipt)
        self.assertEqual(format_receipt(receipt=parse_receipt(text="a 0 0 0\nstore 0")), "a 0 0 0\nstore 0")

    def test_texts_that_are_none(self):
        for text in ("", "price 2 0 0", "store 1", "price 2 0 0\nnorth 0 2 0 2", "price 2 0\nstore 1",
                     "price 2 0 0 0\nstore 1", "price 2 0 0\nstore 1 1", "price 2 0 0\nstore", "price 2 0 0\nnorth 1",
                     "price 2 0 0\nstore -1", "price -2 0 0\nstore 1", "price 2 0 0\nstore 1\n", "\nprice 2 0 0\nstore 1",
                     "price 2 0 0\n\nstore 1", "price 2 0 0\nstore 1\nstore 1", "price 2 0 0\nnorth 0 2 0\nstore 1",
                     "price 2 0 0\nnorth 0 2 0 2 2\nstore 1", "5 2 0 0\nstore 1", "price 2 0 x\nstore 1",
                     "price  2 0 0\nstore 1", "price 02 0 0\nstore 1", "price 2 0 0 store 1", "price=2"):
            refuse(self, text, parse_receipt)
        for odd in ODD + [("a", 0, 0, 0, (("store", 0),)), 5]:
            refuse(self, odd, parse_receipt)

    def test_drawn_receipts(self):
        count = 0
        for seed in range(60):
            draw = Draw(seed)
            net = Net(["a", "b"])
            for _ in range(80):
                try:
                    net.perform(draw_deed(draw, net, WEIGHTS[3]))
                except CacheError:
                    pass
            for question in range(1, 40):
                try:
                    receipt = receipt_of(net, question)
                except CacheError:
                    continue
                count += 1
                self.assertEqual(inner(parse_receipt(format_receipt(receipt))), inner(receipt))
        self.assertGreater(count, 300)


class KindTest(unittest.TestCase):
    def test_texts_of_another_kind(self):
        texts = {
            "deed": "write price 5", "history": "write price 5\nwrite price 6", "token": "price=1", "none": "-",
            "receipt": "price 2 0 0\nstore 1", "cut": "price=1 size=0", "": "",
        }
        readers = {
            "deed": (lambda text: parse_deed(text, KEYS), ("deed",)),
            "history": (lambda text: parse_history(text, KEYS), ("deed", "history", "")),
            "token": (parse_token, ("token", "none")),
            "cut": (lambda text: parse_cut(text, ["price"]), ("cut", "token")),
            "receipt": (parse_receipt, ("receipt",)),
        }
        for read, fits in readers.values():
            for kind, text in texts.items():
                if kind in fits:
                    read(text)
                else:
                    refuse(self, text, read)


if __name__ == "__main__":
    unittest.main()
