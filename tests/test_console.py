"""Point 27: the commands of a console and their results."""

import unittest

from slackcache.console import Console
from slackcache.errors import (
    CacheError, HasChildren, InvalidCommand, LimitExceeded, NameTaken, NetTaken, NoCopy, NoMessage, NothingToUndo,
    NothingWaits, NotYours, UnknownKey, UnknownNet, UnknownNode, UnknownQuestion, Unsettled,
)
from slackcache.net import Net
from slackcache.texts import format_deed
from slackcache.waits import freeing, sharp, waits
from tests.drawing import WEIGHTS, Draw, draw_deed
from tests.helpers import ODD, check_raised, picture

COMMANDS = [
    "create ann new price size", "do ann main write price 5", "undo ann main", "redo ann main", "fork ann main new",
    "drop ann main", "nets", "test main number price = 0 and not there oslo", "answer main 1", "waits main price",
    "free main price", "sharp main north price",
]


def started(*lines):
    console = Console()
    for line in ("create ann main price", "do ann main join north store 1", "do bob main write price 5") + lines:
        console.execute(line)
    return console


def state(console):
    desk = console.desk
    return [(name, picture(desk.twin(name)), list(desk.users(name))) for name in desk.names]


def refuse(case, console, line):
    before = state(console)
    check_raised(case, InvalidCommand, {"given": line}, console.execute, line)
    case.assertEqual(state(console), before)


def check(case, console, error, fields, line):
    before = state(console)
    check_raised(case, error, fields, console.execute, line)
    case.assertEqual(state(console), before)


class ResultTest(unittest.TestCase):
    def run_lines(self, *pairs):
        console = Console()
        for line, want in pairs:
            self.assertEqual(console.execute(line), want, line)
        return console

    def test_nets(self):
        self.run_lines(
            ("nets", "-"), ("create ann main price", "ok"), ("nets", "main"), ("create bob a a b c d", "ok"),
            ("fork cid main copy", "ok"), ("nets", "a copy main"), ("drop zoe main", "ok"), ("nets", "a copy"),
            ("drop zoe a", "ok"), ("drop zoe copy", "ok"), ("nets", "-"),
        )

    def test_results_of_deeds(self):
        self.run_lines(
            ("create ann main price size", "ok"), ("do ann main join north store 1 2", "ok"),
            ("do ann main deliver store north", "copy price 0 0 1"), ("do ann main write price -7", "1"),
            ("do ann main write price 8", "ok"), ("do ann main deliver store north", "copy size 0 0 2"),
            ("do ann main read north price 0 1", "1"), ("do ann main deliver north store", "question 1 price 0 1"),
            ("answer main 1", "-"),
            ("do ann main deliver store north", "update price 1 -7"), ("do ann main deliver store north",
                                                                        "answer 1 1 -7 store"),
            ("answer main 1", "1 -7 store"), ("do ann main read store price 0 0", "2"), ("answer main 2", "1 -7 store"),
            ("do ann main deliver north store", "confirm price 1"), ("do ann main change north size 3", "ok"),
            ("do ann main change north price 2", "ok"), ("do ann main deliver store north", "update price 2 8"),
            ("do ann main deliver store north", "raise size 3"), ("do ann main deliver store north", "raise price 2"),
            ("do ann main deliver north store", "confirm price 2"), ("do ann main deliver north store", "agree size 3"),
            ("do ann main deliver north store", "agree price 2"), ("do ann main change north price 1", "ok"),
            ("do ann main deliver store north", "lower price 1"), ("do ann main crash north", "ok"),
            ("do ann main recover north", "ok"), ("do ann main crash north", "ok"), ("do ann main forget north", "ok"),
            ("do ann main join oslo store 1 2", "ok"), ("do ann main leave oslo", "ok"),
            ("do ann main deliver oslo store", "gone"), ("undo ann main", "ok"), ("undo ann main", "ok"),
            ("redo ann main", "ok"), ("redo ann main", "gone"),
        )

    def test_undo_and_redo(self):
        console = started()
        self.assertEqual(console.execute("undo bob main"), "ok")
        check(self, console, NotYours, {"user": "ann"}, "undo bob main")
        check(self, console, NotYours, {"user": "bob"}, "redo ann main")
        self.assertEqual(console.execute("redo bob main"), "1")
        check(self, console, NothingToUndo, {"net": "main"}, "redo bob main")

    def test_test(self):
        console = started()
        for text, want in (
            ("number price = 1", "yes"), ("number price = 2", "no"), ("there north and not there oslo", "yes"),
            ("age lima price = 0 or age lima price != 0", "no"), ("( 0 = 1 )", "no"), ("waiting size = 0", "no"),
            ("sent store north - nodes = 0", "yes"),
        ):
            self.assertEqual(console.execute("test main " + text), want, text)

    def test_waits_and_free(self):
        console = started("do ann main join south store 1", "do ann main join oslo store 3", "do ann main write price 6")
        self.assertEqual(console.execute("waits main price"), "north 1 update")
        console = started("do bob main write price 6")
        self.assertEqual(console.execute("waits main price"), "north 1 update")
        self.assertEqual(console.execute("free main price"), "store north; store north; north store")
        console.execute("do ann main crash north")
        self.assertEqual(console.execute("waits main price"), "north 1 crashed")
        self.assertEqual(console.execute("free main price"), "-")
        console = Console()
        for line in ("create a n k", "do a n join x store 1", "do a n join y store 1", "do a n write k 1", "do a n write k 1"):
            console.execute(line)
        self.assertEqual(console.execute("waits n k"), "x 1 update; y 1 update")

    def test_sharp(self):
        console = started()
        self.assertEqual(console.execute("sharp main store price"), "-")
        check(self, console, NoCopy, {"word": "price"}, "sharp main north price")
        console.execute("do ann main deliver store north")
        self.assertEqual(console.execute("sharp main north price"), "-")
        console.execute("do ann main deliver store north")
        self.assertEqual(console.execute("sharp main north price"), "write price 0; deliver north store")

    def test_looks_against_the_functions(self):
        for seed in range(30):
            draw = Draw(seed)
            console = Console()
            net = Net(["a", "b"])
            console.execute("create ann main a b")
            for _ in range(60):
                deed = draw_deed(draw, net, WEIGHTS[seed % len(WEIGHTS)])
                line = "do ann main " + format_deed(deed)
                try:
                    result = net.perform(deed)
                except CacheError as error:
                    check_raised(self, type(error), vars(error), console.execute, line)
                    continue
                want = "ok" if result is None else str(result) if isinstance(result, int) else " ".join(map(str, result))
                self.assertEqual(console.execute(line), want)
            self.assertEqual(console.desk.twin("main"), net)
            for key in net.key_names:
                if net.waiting(key):
                    rows = ["{} {} {}".format(*row) for row in waits(net, key)]
                    self.assertEqual(console.execute(f"waits main {key}"), "; ".join(rows))
                    links = freeing(net, key)
                    want = "-" if links is None else "; ".join(" ".join(link) for link in links)
                    self.assertEqual(console.execute(f"free main {key}"), want)
                else:
                    check(self, console, NothingWaits, {"word": key}, f"waits main {key}")
                    check(self, console, NothingWaits, {"word": key}, f"free main {key}")
                for name in net.names:
                    line = f"sharp main {name} {key}"
                    try:
                        deeds = sharp(net, name, key)
                    except CacheError as error:
                        check(self, console, type(error), vars(error), line)
                        continue
                    self.assertEqual(console.execute(line), "; ".join(map(format_deed, deeds)) or "-")


class FormTest(unittest.TestCase):
    def test_one_word_too_many_or_too_few(self):
        console = started()
        for line in COMMANDS:
            words = line.split(" ")
            for at in range(len(words)):
                shorter = " ".join(words[:at] + words[at + 1:])
                if shorter not in ("create ann new price", "create new price size", "create ann price size",
                                   "create ann new size", "test main number price = 0 and there oslo"):
                    refuse(self, console, shorter)
            for word in ("price", "5", "-"):
                longer = f"{line} {word}"
                if longer != "create ann new price size price" and not (words[0] == "create" and word == "price"):
                    refuse(self, console, longer)
        for line in ("create ann new", "create ann", "create", "create ann new a b c d e", "create ann new a a",
                     "create ann new price price", "do ann main", "do ann", "do", "test main", "test", "fork ann main",
                     "nets main", "answer main", "sharp main north", "waits main", "free main"):
            refuse(self, console, line)

    def test_spaces(self):
        console = started()
        for line in COMMANDS:
            for bad in (" " + line, line + " ", line.replace(" ", "  ", 1) if " " in line else "nets  ",
                        line.replace(" ", "\t", 1) + "\n", line + "\n"):
                refuse(self, console, bad)

    def test_wrong_words(self):
        console = started()
        for line in COMMANDS:
            words = line.split(" ")
            for at in range(len(words)):
                for bad in ("Price", "pri-ce", "abcdefghi", "", "\u00e9", "a1", "05", "-0", "1.5", "x" * 9):
                    refuse(self, console, " ".join(words[:at] + [bad] + words[at + 1:]))
            for bad in ("5", "-1"):
                if words[0] not in ("answer", "nets", "test"):
                    refuse(self, console, " ".join(words[:-1] + [bad, "x"]))
        for line in ("", " ", "Nets", "help", "quit", "write price 5", "list", "run ann main drain", "create ann new 5",
                     "answer main 0", "answer main -1", "answer main 01", "answer main x", "answer main +1",
                     "do ann main drain", "do ann main write price", "do ann main write price 05", "do ann main expect 0 = 0",
                     "do ann main call a", "do ann main join north store", "do ann main read north price 1",
                     "test main 0", "test main 0 == 0", "test main ( 0 = 0", "test main " + "( " * 21 + "0 = 0" + " )" * 21):
            refuse(self, console, line)

    def test_a_condition_of_a_thousand_characters(self):
        console = started()
        start = "0 = 0 or " * 100
        fits = start + "0 = 1" + "0" * (1000 - len(start) - 5)
        self.assertEqual(console.execute("test main " + fits), "yes")
        refuse(self, console, "test main " + fits + "0")

    def test_objects_that_are_no_texts(self):
        console = started()
        for odd in ODD + [5, ["nets"], ("nets",), b"nets"]:
            refuse(self, console, odd)
        check_raised(self, InvalidCommand, {"given": None}, lambda: console.execute(line=None))
        self.assertEqual(console.execute(line="nets"), "main")


class OrderTest(unittest.TestCase):
    def test_invalid_commands_before_unknown_nets_before_joins(self):
        console = started()
        for line in COMMANDS[1:6] + COMMANDS[7:]:
            self.assertIn("main", line)
            unknown = line.replace("main", "lima", 1)
            check(self, console, UnknownNet, {"net": "lima"}, unknown)
            refuse(self, console, unknown + " )")
        for many in (1, 2, 3, 5):
            line = "join oslo store" + " 3" * many
            check(self, console, UnknownNet, {"net": "lima"}, "do ann lima " + line)
            if many != 1:
                refuse(self, console, "do ann main " + line)
        # A join with another number of allowances is refused before its other errors.
        refuse(self, console, "do ann main join north lima 1 1")
        check(self, console, NameTaken, {"node": "north"}, "do ann main join north lima 1")

    def test_errors_of_the_desk_and_the_functions(self):
        console = started()
        for line, error, fields in (
            ("create bob main price", NetTaken, {"net": "main"}), ("fork bob main main", NetTaken, {"net": "main"}),
            ("undo ann main", NotYours, {"user": "bob"}), ("redo ann main", NothingToUndo, {"net": "main"}),
            ("do ann main write size 1", UnknownKey, {"word": "size"}),
            ("do ann main leave oslo", UnknownNode, {"node": "oslo"}),
            ("do ann main deliver north store", NoMessage, {"sender": "north", "receiver": "store"}),
            ("answer main 1", UnknownQuestion, {"question": 1}), ("answer main 99", UnknownQuestion, {"question": 99}),
            ("waits main size", UnknownKey, {"word": "size"}), ("waits main price", NothingWaits, {"word": "price"}),
            ("free main size", UnknownKey, {"word": "size"}), ("free main price", NothingWaits, {"word": "price"}),
            ("sharp main oslo size", UnknownNode, {"node": "oslo"}), ("sharp main north size", UnknownKey, {"word": "size"}),
            ("sharp main north price", NoCopy, {"word": "price"}),
        ):
            check(self, console, error, fields, line)
        console.execute("do ann main deliver store north")
        console.execute("do ann main join oslo north 1")
        check(self, console, HasChildren, {"node": "north"}, "do ann main leave north")
        console.execute("do ann main change north price 2")
        check(self, console, Unsettled, {"node": "store"}, "sharp main store price")
        for name in "abcdefg":
            console.execute(f"create ann {name} price")
        check(self, console, LimitExceeded, {"limit": 8}, "create ann h price")
        check(self, console, LimitExceeded, {"limit": 8}, "fork ann main h")
        check(self, console, NetTaken, {"net": "a"}, "fork ann main a")


if __name__ == "__main__":
    unittest.main()
