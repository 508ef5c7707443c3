"""Scripts: deeds with loops, choices and definitions, and what a run of them did."""

from slackcache.acts import ACTS, is_refusal
from slackcache.conditions import parse_condition
from slackcache.deeds import read_deed, with_keys
from slackcache.errors import InvalidCondition, InvalidOperand, InvalidScript, LimitExceeded
from slackcache.words import is_number_text, is_word

MOST_LINES = 2000
MOST_TURNS = 99
STEP = 2


def condition_of(words):
    """The condition that is written in words, or None."""
    try:
        return parse_condition(" ".join(words))
    except InvalidCondition:
        return None


def turns_of(words):
    """How often a block is repeated, or None if the words do not tell it."""
    if len(words) != 1 or not is_number_text(words[0]) or len(words[0]) > len(str(MOST_TURNS)):
        return None
    turns = int(words[0])
    return turns if turns >= 0 else None


def name_of(words):
    return words[0] if len(words) == 1 and is_word(words[0]) else None


def read_row(words):
    """A line as a tuple of its kind and, where it has one, its argument; None if it is no line."""
    head, rest = words[0], words[1:]
    argument = None
    match head:
        case "drain" | "else" | "end":
            return (head,) if not rest else None
        case "expect" | "while" | "if":
            argument = condition_of(rest)
        case "repeat":
            argument = turns_of(rest)
        case "define" | "call":
            argument = name_of(rest)
        case _:
            head = "deed"
            argument = read_deed(words)
    return None if argument is None else (head, argument)


class Draft:
    """The lines of a script that were read so far."""

    def __init__(self):
        self.rows = []
        # The indexes of the lines that began the blocks in which the next line stands.
        self.nest = []
        # By the line that begins a block, the lines of its else and its end; by the lines of an
        # else and an end, that of the end and that which begins the block.
        self.elses = {}
        self.ends = {}
        self.starts = {}
        self.defined = {}
        self.called = {}

    def fits(self, row):
        """Whether a line of this kind can stand here."""
        if row[0] == "define":
            return not self.nest and row[1] not in self.defined
        if row[0] == "else":
            return self.rows[self.nest[-1]][0] == "if" and self.nest[-1] not in self.elses
        return True

    def depth_of(self, row):
        """How deep a line of this kind is indented here; an end of no block is never right."""
        return len(self.nest) - 1 if row[0] in ("else", "end") else len(self.nest)

    def read_line(self, line):
        """Take a line if it can stand here, and return whether it can."""
        text = line.lstrip(" ")
        row = read_row(text.split(" "))
        if row is None or len(line) - len(text) != STEP * self.depth_of(row) or not self.fits(row):
            return False
        at = len(self.rows)
        self.rows.append(row)
        match row[0]:
            case "repeat" | "while" | "if":
                self.nest.append(at)
            case "define":
                self.defined[row[1]] = at
                self.nest.append(at)
            case "else":
                self.elses[self.nest[-1]] = at
            case "end":
                self.close(at)
            case "call":
                self.called[row[1]] = True
        return True

    def close(self, at):
        """Note the end of the innermost block."""
        start = self.nest.pop()
        self.ends[start] = at
        self.starts[at] = start
        if start in self.elses:
            self.ends[self.elses[start]] = at

    def is_whole(self):
        return not self.nest and all([name in self.defined for name in self.called])


class Report:
    """What a run did."""

    def __init__(self, did, missed, halt, total):
        self.did = did
        self.missed = missed
        self.halt = halt
        self.total = total

    @property
    def deeds(self):
        return self.did

    @property
    def failed(self):
        return self.missed

    @property
    def stopped(self):
        return self.halt

    @property
    def lines(self):
        return self.total


class Run:
    """A run of a script on a net, with a stack of the turns that are left and the lines to go back to."""

    def __init__(self, draft, net):
        self.draft = draft
        self.net = net
        self.stack = []
        self.missed = []
        self.halt = None
        self.total = 0

    def tally(self):
        self.total += 1
        if self.total > MOST_LINES:
            raise LimitExceeded(MOST_LINES)

    def go(self):
        at = 0
        while at < len(self.draft.rows) and self.halt is None:
            at = self.do_row(at)

    def do_row(self, at):
        """Do a line, and return the index of the next one."""
        row = self.draft.rows[at]
        match row[0]:
            case "else" | "define":
                return self.draft.ends[at] + 1
            case "end":
                return self.do_end(at)
        self.tally()
        match row[0]:
            case "deed":
                self.do_deed(at, row[1])
            case "drain":
                self.do_drain()
            case "expect":
                if not row[1](self.net):
                    self.missed.append(at + 1)
            case "call":
                self.stack.append(at + 1)
                return self.draft.defined[row[1]] + 1
            case "repeat":
                if row[1] == 0:
                    return self.draft.ends[at] + 1
                self.stack.append(row[1])
            case _:
                if not row[1](self.net):
                    return self.draft.elses.get(at, self.draft.ends[at]) + 1
        return at + 1

    def do_end(self, at):
        start = self.draft.starts[at]
        match self.draft.rows[start][0]:
            case "while":
                return start
            case "define":
                return self.stack.pop()
            case "repeat":
                self.stack[-1] -= 1
                if self.stack[-1] > 0:
                    return start + 1
                self.stack.pop()
        return at + 1

    def do_deed(self, at, written):
        deed = with_keys(written, self.net.key_names)
        # A join of no allowances is refused as one with a wrong number of them is.
        if deed is None:
            deed = written[:3] + ((),)
        do = ACTS[deed[0]]
        result = do(self.net, deed)
        if is_refusal(result):
            self.halt = (at + 1, result[1])

    def do_drain(self):
        links = list(self.net.links())
        while links:
            self.tally()
            self.net.deliver(links[0][0], links[0][1])
            links = list(self.net.links())


class Script:
    def __init__(self, written, draft):
        self.written = written
        self.draft = draft

    @property
    def text(self):
        return self.written

    def __eq__(self, other):
        return isinstance(other, Script) and self.written == other.written

    def run(self, net):
        """Do the lines on a net; on a copy first, so that nothing is done if they are too many."""
        run = Run(self.draft, net.copy())
        run.go()
        did = run.net.history[len(net.history):]
        for deed in did:
            net.perform(deed)
        return Report(did, tuple(run.missed), run.halt, run.total)


def parse_script(text):
    if not isinstance(text, str):
        raise InvalidScript(None)
    draft = Draft()
    lines = text.split("\n")
    for number, line in enumerate(lines, start=1):
        if not draft.read_line(line):
            raise InvalidScript(number)
    if not draft.is_whole():
        raise InvalidScript(len(lines))
    return Script(text, draft)


def join_scripts(one, other):
    """The script with the lines of both."""
    if not isinstance(one, Script):
        raise InvalidOperand(one)
    if not isinstance(other, Script) or any([name in one.draft.defined for name in other.draft.defined]):
        raise InvalidOperand(other)
    return parse_script(f"{one.text}\n{other.text}")
