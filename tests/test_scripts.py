"""Point 23: lines, blocks and definitions, and the text of a script."""

import unittest

from slackcache.errors import InvalidOperand, InvalidScript
from slackcache.net import Net
from slackcache.scripts import join_scripts, parse_script
from tests.helpers import ODD, check_raised, inner

DEEDS = [
    "join north store 1", "join north store 1 2 3 4", "join north store 1 2 3 4 5 6", "write price 5", "write price -5",
    "read north price 0 0", "read north price -1 1000", "change north price 3", "change north price 100",
    "deliver north store", "leave north", "crash store", "forget north", "recover north",
]
SINGLE = DEEDS + [
    "drain", "expect 0 = 0", "expect not there a and ( 1 < 2 or there b )", "call again",
]
OPENERS = ["repeat 0", "repeat 3", "repeat 99", "while 1 = 0", "if there north"]
AGAIN = "\ndefine again\nend"


def refuse(case, text, line):
    check_raised(case, InvalidScript, {"line": line}, parse_script, text)


class LineTest(unittest.TestCase):
    def test_every_line(self):
        for line in SINGLE:
            text = line + AGAIN
            self.assertEqual(parse_script(text).text, text)
        for line in OPENERS:
            for text in (f"{line}\nend", f"{line}\n  drain\nend", f"drain\n{line}\nend\ndrain"):
                self.assertEqual(parse_script(text).text, text)
        for text in ("define a\nend", "define a\n  drain\nend\ncall a", "call a\ndefine a\nend",
                     "if 0 = 0\nelse\nend", "if 0 = 0\n  drain\nelse\n  drain\nend"):
            self.assertEqual(parse_script(text).text, text)

    def test_one_word_too_many_or_too_few(self):
        for line in SINGLE + OPENERS + ["define again", "end", "else"]:
            words = line.split(" ")
            for bad in (line + " x", line + " 5", line + " x y", line + " ", " ".join(words[:-1])):
                if line.startswith("join north store 1") and bad in (line + " 5", line.rsplit(" ", 1)[0]) \
                        and len(bad.split(" ")) > 3:
                    continue
                refuse(self, "drain\n" + bad + "\ndrain", 2)
        for bad in ("join", "join north", "join north store", "write price", "drain drain", "end end"):
            refuse(self, bad, 1)

    def test_spaces(self):
        for line in SINGLE + OPENERS:
            for bad in (line.replace(" ", "  ", 1), line + " ", " " + line, "  " + line, line.replace(" ", "\t", 1),
                        line + "\r", "\t" + line):
                if bad != line:
                    refuse(self, bad + AGAIN, 1)
                    refuse(self, "drain\n" + bad + AGAIN, 2)

    def test_integers(self):
        for line in ("join north store 1", "write price 1", "read north price 1 1", "change north price 1", "repeat 1"):
            words = line.split(" ")
            for at, word in enumerate(words):
                if word == "1":
                    for bad in ("01", "00", "-0", "+1", "1.0", "1x", "x", "\u0661", "--1", "-", "", "1_0", "\u00b2"):
                        refuse(self, " ".join(words[:at] + [bad] + words[at + 1:]) + "\nend", 1)
        self.assertEqual(parse_script("write price " + "9" * 30).text, "write price " + "9" * 30)

    def test_words(self):
        for line in ("join north store 1", "write north 1", "read north north 1 1", "change north north 1",
                     "deliver north north", "leave north", "crash north", "forget north", "recover north",
                     "define north", "call north", "expect there north"):
            words = line.split(" ")
            for at, word in enumerate(words):
                if word == "north":
                    for bad in ("North", "abcdefghi", "a1", "5", "-", "\u00e9", "nor-th", "("):
                        refuse(self, " ".join(words[:at] + [bad] + words[at + 1:]), 1)

    def test_unknown_lines(self):
        for line in ("", "write", "Write price 5", "number price", "copy a b", "wait", "else", "end", "5", "# note",
                     "expect", "while", "if", "repeat", "define", "call", "drain\ndrian", "answer 1"):
            refuse(self, line, line.count("\n") + 1)

    def test_repeat(self):
        for word in ("0", "1", "98", "99"):
            self.assertEqual(parse_script(f"repeat {word}\nend").text, f"repeat {word}\nend")
        for word in ("100", "-1", "-9", "1000", "99 9", "9" * 30):
            refuse(self, f"repeat {word}\nend", 1)

    def test_conditions(self):
        long = "0 = 0 or " * 110 + "0 = 1"
        fits = long + "0" * (1000 - len(long))
        for head, tail in (("expect", ""), ("while", "\nend"), ("if", "\nend")):
            for bad in ("", "0", "0 = 0 ", "0 == 0", "there", "( 0 = 0", "0 = 0 and", "( " * 21 + "0 = 0" + " )" * 21):
                refuse(self, f"drain\n{head} {bad}{tail}", 2)
            self.assertEqual(len(fits), 1000)
            parse_script(f"{head} {fits}{tail}")
            refuse(self, f"{head} {fits}0{tail}", 1)
            # Brackets that are not needed stay in the text.
            self.assertEqual(parse_script(f"{head} ( 0 = 0 ){tail}").text, f"{head} ( 0 = 0 ){tail}")


class BlockTest(unittest.TestCase):
    def test_indents(self):
        for opener in OPENERS + ["define a"]:
            for spaces in range(8):
                if spaces != 2:
                    refuse(self, f"{opener}\n{' ' * spaces}drain\nend", 2)
            for spaces in range(1, 5):
                refuse(self, f"{opener}\n{' ' * spaces}end", 2)
                refuse(self, f"{opener}\n  drain\n{' ' * spaces}end", 3)
        text = "repeat 2\n  while 0 = 1\n    if 0 = 0\n      drain\n    else\n      drain\n    end\n  end\nend\ndrain"
        self.assertEqual(parse_script(text).text, text)
        lines = text.split("\n")
        for at in range(len(lines)):
            for shift in (-2, -1, 1, 2, 4):
                indent = len(lines[at]) - len(lines[at].lstrip(" ")) + shift
                if indent >= 0:
                    bad = " " * indent + lines[at].lstrip(" ")
                    changed = lines[:at] + [bad] + lines[at + 1:]
                    self.assertIn(first_bad(changed), range(1, len(lines) + 1))
                    refuse(self, "\n".join(changed), first_bad(changed))

    def test_else_and_end_where_they_cannot_stand(self):
        refuse(self, "end", 1)
        refuse(self, "else", 1)
        refuse(self, "drain\nend", 2)
        refuse(self, "drain\nelse\nend", 2)
        for opener in ("repeat 1", "while 0 = 1", "define a"):
            refuse(self, f"{opener}\nelse\nend", 2)
            refuse(self, f"if 0 = 0\nend\n{opener}\nelse\nend", 4)
        refuse(self, "if 0 = 0\nelse\nelse\nend", 3)
        refuse(self, "if 0 = 0\nend\nelse\nend", 3)
        refuse(self, "if 0 = 0\nend\nend", 3)
        refuse(self, "if 0 = 0\n  repeat 1\n  else\n  end\nend", 3)
        parse_script("if 0 = 0\n  if 0 = 0\n  else\n  end\nelse\nend")

    def test_blocks_without_lines(self):
        text = "repeat 1\nend\nwhile 0 = 1\nend\nif 0 = 0\nend\nif 0 = 0\nelse\nend\ndefine a\nend"
        self.assertEqual(parse_script(text).text, text)

    def test_something_is_left_open(self):
        for opener in OPENERS + ["define a"]:
            refuse(self, opener, 1)
            refuse(self, f"drain\n{opener}\n  drain\n  drain", 4)
            refuse(self, f"{opener}\n  repeat 1\n  end", 3)
        refuse(self, "if 0 = 0\nelse", 2)

    def test_deep_blocks(self):
        deep = 50
        lines = ["  " * at + "repeat 1" for at in range(deep)] + ["  " * deep + "drain"]
        lines += ["  " * at + "end" for at in range(deep - 1, -1, -1)]
        script = parse_script("\n".join(lines))
        self.assertEqual(script.run(Net(["a"])).lines, deep + 1)

    def test_the_empty_text_and_empty_lines(self):
        refuse(self, "", 1)
        refuse(self, "\n", 1)
        refuse(self, "drain\n", 2)
        refuse(self, "drain\n\ndrain", 2)
        refuse(self, "\ndrain", 1)
        refuse(self, "repeat 1\n\nend", 2)
        refuse(self, "repeat 1\n  \nend", 2)
        refuse(self, " ", 1)

    def test_texts_that_are_none(self):
        for odd in ODD:
            if not isinstance(odd, str):
                refuse(self, odd, None)
        for odd in (5, ["drain"], ("drain",), b"drain", parse_script("drain")):
            refuse(self, odd, None)
        check_raised(self, InvalidScript, {"line": None}, lambda: parse_script(text=None))
        self.assertEqual(parse_script(text="drain").text, "drain")

    def test_the_first_line_that_cannot_stand_there(self):
        refuse(self, "drain\nbad\nworse\nend", 2)
        refuse(self, "call nobody\nbad", 2)
        refuse(self, "repeat 1\n  bad", 2)
        refuse(self, "repeat 100\ncall nobody", 1)


def first_bad(lines):
    """The number of the first line that is indented in a wrong way, by a plain count."""
    depth = 0
    for number, line in enumerate(lines, start=1):
        text = line.lstrip(" ")
        here = depth - 1 if text in ("end", "else") else depth
        if len(line) - len(text) != 2 * here or here < 0:
            return number
        depth = here + (text != "end" and (text.split(" ")[0] in ("repeat", "while", "if", "else", "define")))
    return len(lines)


class DefinitionTest(unittest.TestCase):
    def test_within_blocks(self):
        for opener in OPENERS + ["define a"]:
            refuse(self, f"{opener}\n  define b\n  end\nend", 2)
        refuse(self, "if 0 = 0\nelse\n  define b\n  end\nend", 3)

    def test_defined_twice(self):
        refuse(self, "define a\nend\ndefine a\nend", 3)
        parse_script("define a\nend\ndefine b\nend")

    def test_called_and_never_defined(self):
        refuse(self, "call a", 1)
        refuse(self, "call a\ndefine b\nend", 3)
        refuse(self, "define a\n  call b\nend\ndrain", 4)
        refuse(self, "repeat 0\n  call b\nend", 3)

    def test_called_before_and_within_definitions(self):
        parse_script("call a\ndefine a\n  call b\nend\ndefine b\n  call a\nend")


class JoinTest(unittest.TestCase):
    def test_both_one_after_the_other(self):
        one = parse_script("write price 1\ndefine a\n  write price 2\nend\ncall a")
        other = parse_script("call b\ndefine b\n  write price 3\nend")
        before = (inner(one), inner(other))
        found = join_scripts(one, other)
        self.assertEqual(found.text, one.text + "\n" + other.text)
        self.assertEqual(found, parse_script(one.text + "\n" + other.text))
        self.assertEqual((inner(one), inner(other)), before)
        nets = [Net(["price"]) for _ in range(2)]
        report = found.run(nets[0])
        first = one.run(nets[1])
        second = other.run(nets[1])
        self.assertEqual(nets[0], nets[1])
        self.assertEqual(report.deeds, first.deeds + second.deeds)
        self.assertEqual(report.lines, first.lines + second.lines)
        self.assertEqual(join_scripts(other=other, one=one), found)
        self.assertEqual(join_scripts(parse_script("drain"), parse_script("drain")).text, "drain\ndrain")

    def test_operands(self):
        one = parse_script("define a\nend")
        for odd in ODD + ["drain", 5, one.text]:
            check_raised(self, InvalidOperand, {"given": odd}, join_scripts, odd, one)
            check_raised(self, InvalidOperand, {"given": odd}, join_scripts, one, odd)
            check_raised(self, InvalidOperand, {"given": odd}, join_scripts, odd, None)
        for other in (one, parse_script("define b\nend\ndefine a\n  drain\nend"), parse_script("define a\nend")):
            check_raised(self, InvalidOperand, {"given": other}, join_scripts, one, other)
        self.assertEqual(join_scripts(one, parse_script("define b\nend")).text, "define a\nend\ndefine b\nend")

    def test_equality(self):
        one = parse_script("expect ( 0 = 0 )")
        self.assertEqual(one, parse_script("expect ( 0 = 0 )"))
        self.assertNotEqual(one, parse_script("expect 0 = 0"))
        for odd in (one.text, None, 0, Net(["a"])):
            self.assertFalse(one == odd)
            self.assertTrue(one != odd)


if __name__ == "__main__":
    unittest.main()
