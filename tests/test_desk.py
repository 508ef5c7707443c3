"""Point 25: desks, users, undo, redo, forks and trials."""

import unittest

from slackcache.desk import Desk
from slackcache.errors import (
    CacheError, InvalidDeed, InvalidKeys, InvalidName, InvalidOperand, InvalidUser, LimitExceeded, NameTaken, NetTaken,
    NothingToUndo, NotYours, UnknownKey, UnknownNet,
)
from slackcache.net import Net
from slackcache.scripts import parse_script
from tests.drawing import WEIGHTS, Draw, draw_deed
from tests.helpers import ODD, check_raised, picture

WRITE = ("write", "price", 5)
JOIN = ("join", "north", "store", (("price", 2),))


def state(desk):
    """Everything that a desk shows, and what can be undone and done again."""
    rows = []
    for name in desk.names:
        rows.append((name, picture(desk.twin(name)), list(desk.users(name))))
        for step in (desk.undo, desk.redo):
            try:
                step("nobody", name)
            except (NotYours, NothingToUndo) as error:
                rows.append(repr((type(error), vars(error))))
    return (len(desk), rows)


def check(case, desk, error, fields, call, *args, **more):
    """Check that a call raises just this error, and changes nothing."""
    before = state(desk)
    check_raised(case, error, fields, call, *args, **more)
    case.assertEqual(state(desk), before)


def busy_desk():
    desk = Desk()
    desk.create("ann", "main", ["price"])
    desk.do("ann", "main", JOIN)
    desk.do("bob", "main", WRITE)
    desk.do("ann", "main", ("deliver", "store", "north"))
    desk.undo("ann", "main")
    return desk


class DeskTest(unittest.TestCase):
    def test_names(self):
        desk = Desk()
        self.assertEqual((desk.names, len(desk), Desk.MOST, desk.MOST), ([], 0, 8, 8))
        for name in ("rome", "main", "oslo"):
            self.assertIsNone(desk.create("ann", name, ("price", "size")))
        self.assertEqual((desk.names, len(desk)), (["main", "oslo", "rome"], 3))
        desk.names.clear()
        self.assertEqual(len(desk.names), 3)
        self.assertTrue("main" in desk)
        for odd in ODD + ["lima"]:
            self.assertIs(odd in desk, False)
        self.assertIsNone(desk.drop("bob", "main"))
        self.assertEqual(desk.names, ["oslo", "rome"])

    def test_create(self):
        desk = busy_desk()
        for user in ODD:
            check(self, desk, InvalidUser, {"given": user}, desk.create, user, "main", None)
        for name in ODD:
            check(self, desk, InvalidName, {"given": name}, desk.create, "ann", name, None)
        check(self, desk, NetTaken, {"net": "main"}, desk.create, "ann", "main", None)
        for keys in ([], ["price", "price"], "price", None, ["a", "b", "c", "d", "e"], {"price": 1}):
            check(self, desk, InvalidKeys, {"given": keys}, desk.create, "ann", "new", keys)
        keys = ["price"]
        desk.create(keys=keys, name="new", user="ann")
        keys.append("size")
        self.assertEqual(desk.twin("new").key_names, ("price",))

    def test_a_ninth_net(self):
        desk = busy_desk()
        for name in "abcdefg":
            desk.fork("ann", "main", name)
        self.assertEqual(len(desk), 8)
        check(self, desk, LimitExceeded, {"limit": 8}, desk.create, "ann", "h", None)
        check(self, desk, LimitExceeded, {"limit": 8}, desk.fork, "ann", "main", "h")
        check(self, desk, NetTaken, {"net": "a"}, desk.create, "ann", "a", None)
        check(self, desk, NetTaken, {"net": "a"}, desk.fork, "ann", "main", "a")
        desk.drop("ann", "a")
        desk.create("ann", "h", ["price"])
        self.assertEqual(len(desk), 8)

    def test_errors_about_users_and_nets(self):
        desk = busy_desk()
        calls = [
            lambda user, name: desk.fork(user, name, None), lambda user, name: desk.drop(user, name),
            lambda user, name: desk.do(user, name, None), lambda user, name: desk.run(user, name, None),
            lambda user, name: desk.undo(user, name), lambda user, name: desk.redo(user, name),
            lambda user, name: desk.attempt(user, name, None),
        ]
        for call in calls:
            for user in ODD:
                check(self, desk, InvalidUser, {"given": user}, call, user, "lima")
            for name in ODD + ["lima"]:
                check(self, desk, UnknownNet, {"net": name}, call, "ann", name)
        for name in ODD + ["lima"]:
            check(self, desk, UnknownNet, {"net": name}, desk.twin, name)
            check(self, desk, UnknownNet, {"net": name}, desk.first_difference, name, None)
            check(self, desk, UnknownNet, {"net": name}, desk.first_difference, "main", name)
            users = desk.users(name)
            check(self, desk, UnknownNet, {"net": name}, next, users)

    def test_fork(self):
        desk = busy_desk()
        for new in ODD:
            check(self, desk, InvalidName, {"given": new}, desk.fork, "ann", "main", new)
        check(self, desk, NetTaken, {"net": "main"}, desk.fork, "ann", "main", "main")
        self.assertIsNone(desk.fork(new="copy", name="main", user="cid"))
        self.assertEqual(desk.twin("copy"), desk.twin("main"))
        self.assertEqual(list(desk.users("copy")), ["ann", "bob"])
        # Nothing to do again there, but still in the net that was forked.
        check(self, desk, NothingToUndo, {"net": "copy"}, desk.redo, "ann", "copy")
        self.assertEqual(desk.redo("ann", "main"), ("copy", "price", 0, 0, 2))
        # Both go on alone.
        desk.undo("bob", "copy")
        desk.fork("ann", "copy", "third")
        desk.do("cid", "third", WRITE)
        self.assertEqual([list(desk.users(name)) for name in desk.names], [["ann"], ["ann", "bob", "ann"], ["ann", "cid"]])
        self.assertEqual(desk.redo("bob", "copy"), 1)
        self.assertEqual(desk.twin("copy"), desk.twin("third"))
        desk.drop("ann", "copy")
        self.assertEqual(list(desk.users("third")), ["ann", "cid"])

    def test_a_dropped_net_is_gone(self):
        desk = busy_desk()
        desk.drop("zoe", "main")
        check(self, desk, UnknownNet, {"net": "main"}, desk.undo, "bob", "main")
        desk.create("ann", "main", ["size"])
        self.assertEqual((desk.twin("main").key_names, list(desk.users("main"))), (("size",), []))
        check(self, desk, NothingToUndo, {"net": "main"}, desk.redo, "ann", "main")


class UndoTest(unittest.TestCase):
    def test_do(self):
        desk = busy_desk()
        check(self, desk, InvalidDeed, {"given": None}, desk.do, "ann", "main", None)
        check(self, desk, UnknownKey, {"word": "size"}, desk.do, "ann", "main", ("write", "size", 1))
        check(self, desk, NameTaken, {"node": "north"}, desk.do, "ann", "main", JOIN)
        # After a refused deed there is still something to do again.
        self.assertEqual(desk.redo("ann", "main"), ("copy", "price", 0, 0, 2))
        self.assertEqual(desk.do(deed=WRITE, user="cid", name="main"), 2)
        self.assertIsNone(desk.do("cid", "main", WRITE))
        self.assertEqual(list(desk.users("main")), ["ann", "bob", "ann", "cid", "cid"])

    def test_by_the_wrong_user(self):
        desk = busy_desk()
        check(self, desk, NotYours, {"user": "bob"}, desk.undo, "ann", "main")
        check(self, desk, NotYours, {"user": "ann"}, desk.redo, "bob", "main")
        self.assertIsNone(desk.undo("bob", "main"))
        check(self, desk, NotYours, {"user": "ann"}, desk.undo, "bob", "main")
        check(self, desk, NotYours, {"user": "bob"}, desk.redo, "ann", "main")
        desk.undo(user="ann", name="main")
        check(self, desk, NothingToUndo, {"net": "main"}, desk.undo, "ann", "main")
        self.assertEqual(desk.twin("main"), Net(["price"]))
        results = [desk.redo("ann", "main"), desk.redo("bob", "main"), desk.redo(name="main", user="ann")]
        self.assertEqual(results, [None, 1, ("copy", "price", 0, 0, 2)])
        check(self, desk, NothingToUndo, {"net": "main"}, desk.redo, "ann", "main")
        self.assertEqual(list(desk.users("main")), ["ann", "bob", "ann"])

    def test_after_a_new_deed_there_is_nothing_to_do_again(self):
        for step in (lambda desk: desk.do("ann", "main", WRITE),
                     lambda desk: desk.run("ann", "main", parse_script("write price 1\nleave lima")),
                     lambda desk: desk.attempt("ann", "main", lambda net: [net.write("price", 1)])):
            desk = busy_desk()
            step(desk)
            check(self, desk, NothingToUndo, {"net": "main"}, desk.redo, "ann", "main")
        for step in (lambda desk: desk.run("ann", "main", parse_script("leave lima")),
                     lambda desk: desk.attempt("ann", "main", lambda net: True),
                     lambda desk: desk.attempt("ann", "main", lambda net: net.write("price", 1) and None)):
            desk = busy_desk()
            step(desk)
            desk.redo("ann", "main")

    def test_earlier_histories_come_back_exactly(self):
        for seed in range(25):
            draw = Draw(seed)
            desk = Desk()
            desk.create("ann", "main", ["price", "size"])
            net = Net(["price", "size"])
            past = [(picture(net), [])]
            for turn in range(160):
                user = draw.pick(["ann", "bob"])
                deed = draw_deed(draw, net, WEIGHTS[seed % len(WEIGHTS)])
                try:
                    net.perform(deed)
                except CacheError as error:
                    check_raised(self, type(error), vars(error), desk.do, user, "main", deed)
                    continue
                desk.do(user, "main", deed)
                past.append((picture(net), past[-1][1] + [user]))
            at = len(past) - 1
            for turn in range(200):
                back = draw.below(3) > 0 if turn < 150 else True
                if (at if back else len(past) - 1 - at) == 0:
                    continue
                owner = past[at][1][-1] if back else past[at + 1][1][-1]
                (desk.undo if back else desk.redo)(owner, "main")
                at += -1 if back else 1
                self.assertEqual(desk.twin("main").history, past[at][0][6])
                self.assertEqual(list(desk.users("main")), past[at][1])
                if turn % 10 == 0:
                    self.assertEqual(picture(desk.twin("main")), past[at][0])
            # Another way from here, and back.
            before = desk.twin("main")
            desk.do("cid", "main", ("write", "price", 77))
            desk.undo("cid", "main")
            self.assertEqual(desk.twin("main"), before)
            self.assertEqual(picture(desk.twin("main")), past[at][0])

    def test_many_undos_after_a_long_run(self):
        desk = Desk()
        desk.create("ann", "main", ["price"])
        desk.run("ann", "main", parse_script("repeat 99\n  repeat 18\n    write price 1\n  end\nend"))
        history = desk.twin("main").history
        self.assertEqual(len(history), 99 * 18)
        for turn in range(99 * 18):
            desk.undo("ann", "main")
            if turn in (0, 1, 63, 64, 65, 900):
                self.assertEqual(desk.twin("main").history, history[:-1 - turn])
        self.assertEqual(desk.twin("main"), Net(["price"]))
        for turn in range(70):
            desk.redo("ann", "main")
        self.assertEqual(desk.twin("main").history, history[:70])

    def test_undone_deeds_of_a_twin_are_no_deeds_of_the_desk(self):
        desk = busy_desk()
        twin = desk.twin("main")
        twin.write("price", 9)
        self.assertEqual(len(desk.twin("main").history), 2)
        self.assertEqual(desk.twin(name="main"), desk.twin("main"))


class RunTest(unittest.TestCase):
    def test_run(self):
        desk = busy_desk()
        report = desk.run(script=parse_script("write price 1\ndrain\nleave lima"), user="cid", name="main")
        self.assertEqual(report.stopped, (3, "UnknownNode"))
        self.assertEqual(list(desk.users("main")), ["ann", "bob"] + ["cid"] * len(report.deeds))
        self.assertEqual(desk.twin("main").history[2:], report.deeds)
        desk.undo("cid", "main")
        self.assertEqual(desk.twin("main").history[2:], report.deeds[:-1])

    def test_errors(self):
        desk = busy_desk()
        for odd in ODD + ["drain", 5]:
            check(self, desk, InvalidOperand, {"given": odd}, desk.run, "ann", "main", odd)
        endless = parse_script("while 0 = 0\n  write price 1\n  drain\nend")
        check(self, desk, LimitExceeded, {"limit": 2000}, desk.run, "ann", "main", endless)


class AttemptTest(unittest.TestCase):
    def test_a_true_object(self):
        for found in (True, 1, "yes", [0], Net(["price"])):
            desk = busy_desk()

            def visit(net):
                net.write("price", 1)
                net.write("price", 2)
                return found

            self.assertIs(desk.attempt(visit=visit, name="main", user="cid"), found)
            self.assertEqual(list(desk.users("main")), ["ann", "bob", "cid", "cid"])
            self.assertEqual(desk.twin("main").history[2:], (("write", "price", 1), ("write", "price", 2)))

    def test_a_false_object(self):
        for found in (False, 0, None, "", [], {}):
            desk = busy_desk()

            def visit(net):
                net.write("price", 1)
                return found

            before = state(desk)
            self.assertIs(desk.attempt("cid", "main", visit), found)
            self.assertEqual(state(desk), before)

    def test_an_exception(self):
        desk = busy_desk()

        class Refusing:
            def __bool__(self):
                raise ZeroDivisionError

        def visit(net):
            net.write("price", 1)
            raise KeyError("x")

        def refused(net):
            net.write("price", 1)
            net.write("size", 1)

        before = state(desk)
        with self.assertRaises(KeyError):
            desk.attempt("cid", "main", visit)
        with self.assertRaises(ZeroDivisionError):
            desk.attempt("cid", "main", lambda net: net.write("price", 1) and Refusing())
        check(self, desk, UnknownKey, {"word": "size"}, desk.attempt, "cid", "main", refused)
        self.assertEqual(state(desk), before)

    def test_a_visit_that_keeps_the_net(self):
        desk = busy_desk()
        kept = []

        def visit(net):
            kept.append(net)
            self.assertEqual(net.history, desk.twin("main").history)
            net.write("price", 1)
            return kept

        self.assertIs(desk.attempt("cid", "main", visit), kept)
        before = state(desk)
        kept[0].write("price", 7)
        kept[0].crash("north")
        self.assertEqual(state(desk), before)
        self.assertEqual(desk.twin("main").history[2:], (("write", "price", 1),))

    def test_errors_of_the_net_within_a_visit_that_goes_on(self):
        desk = busy_desk()

        def visit(net):
            try:
                net.write("size", 1)
            except UnknownKey:
                return net.write("price", 1)

        self.assertEqual(desk.attempt("cid", "main", visit), 2)
        self.assertEqual(list(desk.users("main")), ["ann", "bob", "cid"])


class DifferenceTest(unittest.TestCase):
    def test_first_difference(self):
        desk = busy_desk()
        desk.fork("ann", "main", "copy")
        self.assertIsNone(desk.first_difference("main", "copy"))
        self.assertIsNone(desk.first_difference("main", "main"))
        desk.do("ann", "copy", WRITE)
        self.assertEqual(desk.first_difference("main", "copy"), 2)
        self.assertEqual(desk.first_difference("copy", "main"), 2)
        desk.do("ann", "main", WRITE)
        # Users make no difference.
        self.assertIsNone(desk.first_difference("main", "copy"))
        desk.do("ann", "main", WRITE)
        desk.do("ann", "copy", ("write", "price", 6))
        self.assertEqual(desk.first_difference("main", "copy"), 3)
        desk.create("ann", "empty", ["price"])
        self.assertEqual(desk.first_difference("main", "empty"), 0)
        self.assertEqual(desk.first_difference(other="main", one="empty"), 0)
        desk.create("ann", "other", ["size"])
        self.assertEqual(desk.first_difference("other", "empty"), 0)
        desk.create("ann", "two", ["price", "size"])
        desk.create("ann", "order", ["size", "price"])
        self.assertEqual(desk.first_difference("two", "order"), 0)

    def test_users_are_asked_for_at_the_first_one(self):
        desk = Desk()
        users = desk.users("main")
        desk.create("ann", "main", ["price"])
        desk.do("bob", "main", WRITE)
        self.assertEqual(list(users), ["bob"])
        self.assertEqual(list(desk.users(name="main")), ["bob"])


if __name__ == "__main__":
    unittest.main()
