"""Point 24: runs of scripts, lines that count, and where a run stops."""

import unittest

from slackcache.conditions import parse_condition
from slackcache.errors import CacheError, LimitExceeded
from slackcache.net import Net
from slackcache.scripts import parse_script
from tests.drawing import Draw
from tests.helpers import check_refused, drain, inner, tree


def run(text, net=None):
    net = net or Net(["price"])
    report = parse_script(text).run(net)
    return (report.lines, report.failed, report.stopped, report.deeds)


def count(text, net=None):
    return run(text, net)[0]


class CountTest(unittest.TestCase):
    def test_each_kind_of_line(self):
        for text, lines in (
            ("write price 1", 1), ("drain", 1), ("expect 0 = 0", 1), ("expect 0 = 1", 1),
            ("repeat 0\n  drain\nend", 1), ("repeat 3\nend", 1), ("repeat 3\n  drain\nend", 4),
            ("repeat 3\n  drain\n  repeat 2\n    drain\n  end\nend", 1 + 3 * (1 + 1 + 2)),
            ("if 0 = 0\n  drain\nelse\n  drain\n  drain\nend", 2),
            ("if 0 = 1\n  drain\nelse\n  drain\n  drain\nend", 3),
            ("if 0 = 1\n  drain\nend", 1), ("if 0 = 0\nend", 1), ("if 0 = 0\nelse\nend", 1), ("if 0 = 1\nelse\nend", 1),
            ("while 0 = 1\n  drain\nend", 1), ("while number price < 3\n  write price 1\nend", 7),
            ("define a\n  drain\nend", 0), ("define a\n  drain\nend\ncall a", 2), ("call a\ndefine a\nend", 1),
            ("define a\n  drain\nend\ncall a\ncall a\ndrain", 5),
            ("define a\n  call b\n  drain\nend\ncall a\ndefine b\n  drain\n  drain\nend", 5),
        ):
            self.assertEqual(run(text)[:3], (lines, run(text)[1], None), text)

    def test_a_drain_of_several_deliveries(self):
        net = tree(("north", "store", 2), ("oslo", "north", 3))
        net.write("price", 5)
        twin = net.copy()
        messages = drain(twin)
        lines, failed, stopped, deeds = run("drain\ndrain", net)
        self.assertEqual(lines, 2 + len(messages))
        self.assertEqual(net, twin)
        self.assertEqual(deeds, twin.history[-len(messages):])
        self.assertGreater(len(messages), 3)

    def test_the_line_at_which_a_run_stops(self):
        for text, lines, stopped in (
            ("leave north", 1, (1, "UnknownNode")),
            ("drain\nwrite size 1\ndrain", 2, (2, "UnknownKey")),
            ("repeat 2\n  write price 1\n  deliver north store\nend\ndrain", 3, (3, "NoMessage")),
            ("call a\ndrain\ndefine a\n  forget north\n  drain\nend", 2, (4, "NotCrashed")),
            ("if 0 = 1\nelse\n  read store price 1000 0\nend", 2, (3, "InvalidNeed")),
            ("while 0 = 0\n  crash store\nend", 2, (2, "UnknownNode")),
        ):
            self.assertEqual(run(text)[::2], (lines, stopped), text)

    def test_every_error_of_a_deed(self):
        start = "join north store 2\ndrain\njoin oslo north 3\n"
        nodes = "".join(f"join {name} store 9\n" for name in "abcdefghi")
        for text, name in (
            ("join north store 2", "NameTaken"), ("join rome lima 2", "UnknownNode"), ("join rome oslo 9", "NotReady"),
            ("join rome store 0", "InvalidAllowance"), ("join rome store 100", "InvalidAllowance"),
            ("join rome north 1", "TooLow"), ("write size 1", "UnknownKey"), ("read lima price 1 1", "UnknownNode"),
            ("read north size 1 1", "UnknownKey"), ("read north price -1 1", "InvalidNeed"),
            ("read north price 1 1", "InvalidNeed"), ("change store price 1", "UnknownNode"),
            ("change north size 1", "UnknownKey"), ("change north price 0", "InvalidAllowance"),
            ("change north price 3\nchange north price 3", "Busy"), ("change oslo price 1", "TooLow"),
            ("deliver north store", "NoMessage"), ("leave store", "UnknownNode"), ("leave north", "HasChildren"),
            ("crash rome", "UnknownNode"), ("forget north", "NotCrashed"), ("recover rome", "NotCrashed"),
            (nodes + "join j store 9", "LimitExceeded"), (nodes + "crash i\njoin j store 9\nrecover i", "LimitExceeded"),
            ("write price 1\n" * 22 + "write price 1", "LimitExceeded"),
        ):
            report = parse_script(start + text + "\ndrain").run(Net(["price"]))
            self.assertEqual(report.stopped, ((start + text).count("\n") + 1, name), text)


class JoinTest(unittest.TestCase):
    def test_another_number_of_allowances(self):
        net = tree(("north", "store", (2, 2)), keys=("price", "size"))
        for allowances in ("1", "5", "5 5 5", "5 5 5 5 5", "0", "100 100 100"):
            for name, parent, error in (
                ("north", "lima", "NameTaken"), ("rome", "lima", "UnknownNode"), ("rome", "north", "InvalidAllowance"),
                ("store", "store", "NameTaken"),
            ):
                before = inner(net)
                report = parse_script(f"join {name} {parent} {allowances}").run(net)
                self.assertEqual((report.stopped, report.deeds, report.lines), ((1, error), (), 1))
                self.assertEqual(inner(net), before)
        self.assertIsNone(parse_script("join rome north 2 3").run(net).stopped)
        self.assertEqual(net.history[-1], ("join", "rome", "north", (("price", 2), ("size", 3))))
        # With twelve nodes, too.
        net = Net(["price"])
        for name in "abcdefghijk":
            net.join(name, "store", {"price": 1})
        self.assertEqual(parse_script("join l store 1 1").run(net).stopped, (1, "InvalidAllowance"))
        self.assertEqual(parse_script("join l store 1").run(net).stopped, (1, "LimitExceeded"))


class ReportTest(unittest.TestCase):
    def test_deeds(self):
        net = Net(["price"])
        net.write("price", 1)
        lines, failed, stopped, deeds = run(
            "join north store 2\nread north price 3 1\nchange north price 3\ndrain\nleave north\nwrite cost 2", net
        )
        self.assertEqual(stopped, (6, "UnknownKey"))
        self.assertEqual(deeds, net.history[1:])
        self.assertEqual(deeds[:3], (("join", "north", "store", (("price", 2),)), ("read", "north", "price", 3, 1),
                                     ("change", "north", "price", 3)))
        self.assertEqual(deeds[-1], ("leave", "north"))
        self.assertEqual({deed[0] for deed in deeds[3:-1]}, {"deliver"})

    def test_failed_in_the_order_in_which_they_did(self):
        text = "call b\nexpect 0 = 1\ndefine a\n  expect number price > 1\nend\ndefine b\n  repeat 3\n    write price 1\n" \
               "    call a\n    expect number price = 2\n  end\nend\nexpect 0 = 0\nexpect age lima price = 0"
        self.assertEqual(run(text)[1], (4, 10, 10, 2, 14))
        self.assertEqual(run("expect 0 = 0")[1:], ((), None, ()))

    def test_conditions_are_looked_at_when_their_line_is_done(self):
        text = "write price 1\nif number price = 1\n  write price 2\nelse\n  write price 3\nend\n" \
               "while number price < 4\n  write price 4\nend\nexpect copy store price = 4"
        net = Net(["price"])
        self.assertEqual(run(text, net)[1:3], ((), None))
        self.assertEqual(net.order, ("price",) * 4)
        self.assertEqual([deed[2] for deed in net.history], [1, 2, 4, 4])

    def test_kept_caches_show_the_net(self):
        net = tree(("north", "store", 2))
        north = net["north"]
        run("write price 7\ndrain", net)
        self.assertEqual(north["price"], (1, 7))
        run("crash north\nrecover north\ndrain", net)
        self.assertEqual(north["price"], (1, 7))

    def test_a_script_can_be_run_again(self):
        script = parse_script("repeat 2\n  write price 1\nend")
        before = inner(script)
        nets = [Net(["price"]), Net(["price"])]
        reports = [script.run(net) for net in nets] + [script.run(net=nets[0])]
        self.assertEqual([report.deeds for report in reports], [(("write", "price", 1),) * 2] * 3)
        self.assertEqual(nets[0].number("price"), 4)
        self.assertEqual(inner(script), before)


class LimitTest(unittest.TestCase):
    def check_limit(self, text, net):
        check_refused(self, net, LimitExceeded, {"limit": 2000}, parse_script(text).run, net)

    def test_two_thousand_lines_and_one_more(self):
        inside = "\n    ".join(["write price 1"] * 19)
        # One line, then 99 times one line and 19 lines more in an inner block of one turn.
        text = f"repeat 99\n  repeat 1\n    {inside}\n  end\nend"
        net = Net(["price"])
        self.assertEqual(count(text, net), 1 + 99 * 20)
        self.assertEqual(net.number("price"), 99 * 19)
        for more in range(17, 24):
            longer = text + "\ndrain" * more
            if 1981 + more <= 2000:
                self.assertEqual(count(longer), 1981 + more)
            else:
                self.check_limit(longer, Net(["price"]))

    def test_the_last_line_may_stop_the_run(self):
        text = "repeat 99\n  repeat 19\n    write price 1\n  end\nend\n" + "drain\n" * 18
        self.assertEqual(run(text + "leave north")[::2], (2000, (24, "UnknownNode")))
        self.check_limit(text + "drain\nleave north", Net(["price"]))

    def test_without_an_end(self):
        net = tree(("north", "store", 2))
        net.read("north", "price", 0)
        for text in ("while 0 = 0\nend", "write price 1\nwhile there north\n  write price 2\n  drain\nend",
                     "define a\n  call a\nend\ncall a", "call a\ndefine a\n  write price 1\n  drain\n  call b\nend\n"
                     "define b\n  call a\nend", "while 0 = 0\n  repeat 0\n  end\nend"):
            self.check_limit(text, net)

    def test_a_definition_that_calls_itself_with_an_end(self):
        net = Net(["price"])
        text = "define a\n  if number price < 9\n    write price 1\n    call a\n    expect number price = 9\n  end\nend\ncall a"
        self.assertEqual(run(text, net)[:3], (1 + 9 * 4 + 1, (), None))
        # Each call does what is left of its own turns.
        text = "call a\ndefine a\n  repeat 2\n    if number price < 4\n      write price 1\n      call a\n    end\n  end\nend"
        net = Net(["price"])
        self.assertEqual(run(text, net)[0], 1 + 5 + 4 * 2 + 10)
        self.assertEqual(net.number("price"), 4)

    def test_a_drain_may_be_too_long(self):
        net = tree(("north", "store", 99), ("oslo", "north", 99), ("rome", "oslo", 99))
        for _ in range(99):
            net.write("price", 1)
        twin = net.copy()
        messages = len(drain(twin))
        text = "expect 0 = 0\n" * (2000 - messages - 1) + "drain"
        self.assertEqual(count(text, net.copy()), 2000)
        self.check_limit("expect 0 = 0\n" + text, net)
        self.assertGreater(messages, 300)


class Stop(Exception):
    pass


class Plain:
    """Scripts that are drawn, and done by plain recursion."""

    def __init__(self, draw):
        self.draw = draw
        self.lines = []
        self.names = []

    def block(self, depth, many):
        return [self.row(depth) for _ in range(self.draw.below(many))]

    def add(self, depth, text):
        self.lines.append("  " * depth + text)
        return len(self.lines)

    def row(self, depth):
        draw = self.draw
        condition = draw.pick(["number price < 6", "waiting price = 0", "there north", "not there oslo",
                               "sent store north > 0", "age north price > 1 or 0 = 1", "nodes > 2 and number price < 9"])
        pick = draw.below(14 if depth < 4 else 9)
        if pick < 6:
            deed = draw.pick(["write price 1", "write price 2", "join north store 2", "join oslo north 3", "leave oslo",
                              "deliver store north", "deliver north store", "read north price 1 0", "write cost 1",
                              "crash north", "recover north", "change north price 3", "join rome store 2 2"])
            return (self.add(depth, deed), "deed", deed)
        if pick == 6:
            return (self.add(depth, "drain"), "drain", None)
        if pick == 7:
            return (self.add(depth, "expect " + condition), "expect", condition)
        if pick == 8:
            name = draw.pick(["a", "b"])
            return (self.add(depth, "call " + name), "call", name)
        kind = draw.pick(["repeat", "while", "if", "if"])
        argument = str(draw.below(4)) if kind == "repeat" else condition
        number = self.add(depth, f"{kind} {argument}")
        body = self.block(depth + 1, 4)
        other = []
        if kind == "if" and draw.below(2):
            self.add(depth, "else")
            other = self.block(depth + 1, 3)
        self.add(depth, "end")
        return (number, kind, argument, body, other)

    def script(self):
        rows = []
        defined = {}
        for _ in range(1 + self.draw.below(8)):
            rows.append(self.row(0))
        for name in ("a", "b"):
            self.add(0, "define " + name)
            defined[name] = self.block(1, 4)
            self.add(0, "end")
        rows += [self.row(0) for _ in range(self.draw.below(4))]
        return (rows, defined)

    def run(self, net):
        rows, self.defined = self.rows
        self.done, self.failed, self.stopped, self.net = 0, [], None, net
        try:
            self.do_block(rows)
        except Stop:
            pass

    def tally(self):
        self.done += 1
        if self.done > 2000:
            raise LimitExceeded(2000)

    def do_deed(self, number, text):
        words = [int(word) if word.isdigit() else word for word in text.split(" ")]
        try:
            if words[0] == "join":
                pairs = dict(zip(self.net.key_names, words[3:])) if len(words) == 3 + len(self.net.key_names) else {}
                self.net.join(words[1], words[2], pairs)
            elif words[0] == "read":
                self.net.read(*words[1:4], floor=words[4])
            else:
                getattr(self.net, words[0])(*words[1:])
        except CacheError as error:
            self.stopped = (number, type(error).__name__)
            raise Stop from None

    def do_block(self, rows):
        for row in rows:
            number, kind, argument = row[:3]
            self.tally()
            if kind == "deed":
                self.do_deed(number, argument)
            elif kind == "drain":
                while list(self.net.links()):
                    self.tally()
                    self.net.deliver(*list(self.net.links())[0])
            elif kind == "expect":
                if not parse_condition(argument)(self.net):
                    self.failed.append(number)
            elif kind == "call":
                self.do_block(self.defined[argument])
            elif kind == "repeat":
                for _ in range(int(argument)):
                    self.do_block(row[3])
            elif kind == "if":
                self.do_block(row[3] if parse_condition(argument)(self.net) else row[4])
            else:
                while parse_condition(argument)(self.net):
                    self.do_block(row[3])
                    self.tally()


class DrawnTest(unittest.TestCase):
    def test_drawn_scripts_against_plain_recursion(self):
        kinds = {"whole": 0, "stopped": 0, "endless": 0}
        for seed in range(600):
            plain = Plain(Draw(seed))
            plain.rows = plain.script()
            nets = []
            for _ in range(2):
                net = tree(("north", "store", 2))
                net.write("price", 9)
                nets.append(net)
            script = parse_script("\n".join(plain.lines))
            before = len(nets[0].history)
            whole = inner(nets[0])
            try:
                plain.run(nets[1])
            except LimitExceeded:
                kinds["endless"] += 1
                with self.assertRaises(LimitExceeded):
                    script.run(nets[0])
                self.assertEqual(inner(nets[0]), whole)
                continue
            except RecursionError:
                continue
            report = script.run(nets[0])
            self.assertEqual(nets[0], nets[1])
            self.assertEqual(report.deeds, nets[1].history[before:])
            self.assertEqual((report.lines, report.failed, report.stopped), (plain.done, tuple(plain.failed), plain.stopped))
            kinds["stopped" if report.stopped else "whole"] += 1
        for kind, many in kinds.items():
            self.assertGreater(many, 20, kinds)


if __name__ == "__main__":
    unittest.main()
