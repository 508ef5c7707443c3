"""Point 16 and guarantee (k): acts, logs, and the first wrong entry of a log."""

import unittest

from slackcache.errors import CacheError, InvalidDeed, InvalidKeys, InvalidLog
from slackcache.logbook import Logbook, first_wrong
from slackcache.net import Net
from tests.drawing import NAMES, WEIGHTS, Draw, draw_deed
from tests.helpers import LIST_OF_A_WORD, ODD, TUPLE_OF_A_WORD, Hostile, check_raised, inner

LOOKS = ("number", "waiting", "answer", "age", "bound", "told", "copy", "messages")

# Acts on a net with the key price, in this order, with their results.
STORY = [
    (("number", "price"), 0),
    (("waiting", "price"), []),
    (("answer", 1), ("error", "UnknownQuestion")),
    (("copy", "store", "price"), (0, 0)),
    (("join", "north", "store", (("price", 1),)), None),
    (("messages", "store", "north"), [("copy", "price", 0, 0, 1)]),
    (("age", "north", "price"), ("error", "NoCopy")),
    (("bound", "north", "price"), ("error", "NoCopy")),
    (("told", "north", "price"), ("error", "NoCopy")),
    (("copy", "north", "price"), ("error", "NoCopy")),
    (("join", "oslo", "north", (("price", 1),)), ("error", "NotReady")),
    (("deliver", "store", "north"), ("copy", "price", 0, 0, 1)),
    (("deliver", "store", "north"), ("error", "NoMessage")),
    (("copy", "north", "price"), (0, 0)),
    (("write", "price", 5), 1),
    (("write", "price", 6), None),
    (("waiting", "price"), [6]),
    (("age", "north", "price"), 1),
    (("bound", "north", "price"), 1),
    (("bound", "store", "price"), 0),
    (("told", "store", "price"), 1),
    (("read", "north", "price", 1, 0), 1),
    (("answer", 1), (0, 0, "north")),
    (("read", "north", "price", 0, 0), 2),
    (("answer", 2), None),
    (("messages", "store", "north"), [("update", "price", 1, 5)]),
    (("messages", "north", "store"), [("question", 2, "price", 0, 0)]),
    (("messages", "oslo", None), []),
    (("change", "north", "price", 3), None),
    (("change", "north", "price", 4), ("error", "Busy")),
    (("join", "oslo", "north", (("price", 0),)), ("error", "InvalidAllowance")),
    (("join", "oslo", "north", (("price", 2),)), None),
    (("leave", "north"), ("error", "HasChildren")),
    (("change", "oslo", "price", 1), None),
    (("join", "Oslo", "north", (("price", 2),)), ("error", "InvalidName")),
    (("join", "oslo", "store", (("price", 2),)), ("error", "NameTaken")),
    (("leave", "oslo"), None),
    (("deliver", "north", "store"), ("question", 2, "price", 0, 0)),
    (("crash", "north"), None),
    (("age", "north", "price"), ("error", "UnknownNode")),
    (("copy", "north", "size"), ("error", "UnknownNode")),
    (("copy", "store", "size"), ("error", "UnknownKey")),
    (("crash", "north"), ("error", "UnknownNode")),
    (("recover", "north"), None),
    (("recover", "north"), ("error", "NotCrashed")),
    (("crash", "north"), None),
    (("forget", "north"), None),
    (("number", "price"), 2),
    (("write", "price", "7"), ("error", "InvalidValue")),
    (("read", "store", "price", 0, 3), ("error", "InvalidNeed")),
    (("read", "store", "price", 0, 2), 3),
    (("answer", 3), (2, 6, "store")),
    (("join", "south", "store", (("price", 9),)), None),
    (("deliver", "store", "south"), ("copy", "price", 2, 6, 9)),
    (("join", "west", "south", (("price", 8),)), ("error", "TooLow")),
]

# Objects that are no acts, for the key price.
NO_ACTS = [
    *ODD, "write", ("write",), ("write", "price"), ("write", "price", 1, 2), ["write", "price", 1], ("Write", "price", 1),
    ("links",), ("names",), ("number",), ("number", "price", 1), ["number", "price"], ("waiting",), ("answer",),
    ("answer", 1, 2), ("age", "store"), ("bound", "price"), ("told",), ("copy", "store"), ("copy",),
    ("copy", "store", "price", 1), ("messages", "store"), ("messages", "a", "b", "c"), ("entry", "a", "b"),
    ("allowance", "store", "price"), ("read", "store", "price", 0), ("join", "north", "store", {"price": 1}),
    ("join", "north", "store", [("price", 1)]), ("join", "north", "store", (["price", 1],)),
    ("join", "north", "store", ()), ("join", "north", "store", (("size", 1),)), ("perform", ("write", "price", 1)),
    ("join", "north", "store", (("price", 1), ("price", 1))), (("number", "price"),), (Hostile(), "price"),
    (None, "price"), ("history",), ("number price",), (["number"], "price"), (b"number", "price"),
]


def expected_outcome(net, act):
    """The result of an act, by calls of the net."""
    try:
        if act[0] == "copy":
            return net[act[1]][act[2]]
        if act[0] in ("bound", "told"):
            return getattr(net[act[1]], act[0])(act[2])
        if act[0] in LOOKS:
            return getattr(net, act[0])(*act[1:])
        return net.perform(act)
    except CacheError as error:
        return ("error", type(error).__name__)


def draw_act(draw, net, weights):
    verb = draw.pick(("deed",) * 6 + LOOKS)
    names, keys = [*net.names, *NAMES, "zurich", 5], [*net.key_names] * 4 + ["sizes", None]
    if verb == "deed":
        return draw_deed(draw, net, weights)
    if verb in ("number", "waiting"):
        return (verb, draw.pick(keys))
    if verb == "answer":
        return (verb, draw.below(8))
    if verb == "messages":
        return (verb, *draw.pick(list(net.links()) or [("store", "north")]))
    return (verb, draw.pick(names), draw.pick(keys))


def drawn_log(seed, many=60):
    draw = Draw(seed)
    keys = [["price"], ["price", "size"], ["c", "b", "a"]][seed % 3]
    book, net = Logbook(keys), Net(keys)
    for _ in range(many):
        act = draw_act(draw, net, WEIGHTS[seed % len(WEIGHTS)])
        expected_outcome(net, act)
        book.act(act)
    return keys, book.noted


def other_kinds(obj):
    """Objects that are equal to an object, or nearly, but not of the same kinds."""
    if obj is None:
        return [False, 0, (), [], "None"]
    if isinstance(obj, int):
        return [str(obj), float(obj), (obj,), obj + 1, None] + ([bool(obj)] if obj in (0, 1) else [])
    if isinstance(obj, str):
        return [obj + "x", obj.encode(), [obj], None]
    kind = list if isinstance(obj, tuple) else tuple
    found = [kind(obj), type(obj)([*obj, 0]), None]
    if obj:
        found += [obj[:-1], type(obj)([*obj, obj[-1]])]
    if len(obj) > 1 and obj[0] != obj[1]:
        found.append(type(obj)([obj[1], obj[0], *obj[2:]]))
    for at, item in enumerate(obj):
        for other in other_kinds(item):
            found.append(type(obj)([*obj[:at], other, *obj[at + 1:]]))
    return found


class LogbookTest(unittest.TestCase):
    def test_a_story_of_all_acts(self):
        book = Logbook(["price"])
        for at, (act, result) in enumerate(STORY):
            self.assertEqual(len(book), at)
            found = book.act(act)
            self.assertEqual(inner(found), inner(result), act)
        self.assertEqual((inner(book.noted), len(book)), (inner(STORY), len(STORY)))
        self.assertIsNone(first_wrong(["price"], book.noted))
        self.assertIsNone(first_wrong(("price",), STORY))
        verbs = {act[0] for act, _ in STORY}
        self.assertEqual(len(verbs), 17)

    def test_the_errors_of_a_full_net(self):
        book = Logbook(["price"])
        for at in range(11):
            self.assertIsNone(book.act(("join", "abcdefghijk"[at], "store", (("price", 1),))))
        self.assertEqual(book.act(("join", "z", "store", (("price", 1),))), ("error", "LimitExceeded"))
        self.assertEqual(book.act(("write", "price", 0)), 1)
        for _ in range(20):
            self.assertIsNone(book.act(("write", "price", 0)))
        self.assertEqual(book.act(("write", "price", 0)), ("error", "LimitExceeded"))
        self.assertEqual(book.act(("waiting", "price")), [0] * 20)
        self.assertIsNone(first_wrong(["price"], book.noted))

    def test_objects_that_are_no_acts(self):
        book = Logbook(["price"])
        book.act(("write", "price", 5))
        before = inner(book)
        for act in NO_ACTS:
            check_raised(self, InvalidDeed, {"given": act}, book.act, act)
            self.assertEqual(inner(book), before)
        self.assertEqual((len(book), book.noted), (1, [(("write", "price", 5), 1)]))

    def test_acts_with_arguments_of_every_kind(self):
        acts = []
        for obj in [*ODD, -1, 10**20]:
            acts += [("number", obj), ("waiting", obj), ("answer", obj), ("messages", obj, obj), ("deliver", obj, obj)]
            acts += [(verb, obj, "price") for verb in ("age", "bound", "told", "copy")]
            acts += [(verb, "store", obj) for verb in ("age", "bound", "told", "copy")]
            acts += [(verb, obj) for verb in ("leave", "crash", "forget", "recover")]
            acts += [("write", obj, 1), ("write", "price", obj), ("change", obj, obj, obj), ("read", obj, obj, obj, obj)]
            acts += [("read", "store", "price", obj, obj), ("join", obj, obj, (("price", obj),))]
        book, net = Logbook(["price"]), Net(["price"])
        for act in acts:
            expected = expected_outcome(net, act)
            self.assertEqual(inner(book.act(act)), inner(expected), act)
        self.assertEqual(len(book), len(acts))
        for (noted, result), act in zip(book.noted, acts):
            self.assertEqual(inner(noted), inner(act))
            if type(result) is tuple and result[0] == "error":
                self.assertIs(noted, act)
        self.assertIsNone(first_wrong(["price"], book.noted))

    def test_keys(self):
        fine = (LIST_OF_A_WORD, TUPLE_OF_A_WORD)
        for keys in [*[obj for obj in ODD if not any(obj is row for row in fine)], ["a"] * 2, list("abcde"), "price"]:
            check_raised(self, InvalidKeys, {"given": keys}, Logbook, keys)
            for log in ([], None, Hostile()):
                check_raised(self, InvalidKeys, {"given": keys}, first_wrong, keys, log)
        self.assertEqual(Logbook(("size", "price")).act(("number", "price")), 0)

    def test_a_net_of_its_own(self):
        one, other = Logbook(["price"]), Logbook(["price"])
        one.act(("write", "price", 5))
        self.assertEqual((one.act(("number", "price")), other.act(("number", "price"))), (1, 0))

    def test_lists_are_new(self):
        book = Logbook(["price"])
        book.act(("join", "north", "store", (("price", 1),)))
        found = book.act(("messages", "store", "north"))
        found.append("more")
        first, second = book.noted, book.noted
        self.assertEqual(first[1][1], [("copy", "price", 0, 0, 1)])
        self.assertIsNot(first, second)
        self.assertIsNot(first[1][1], second[1][1])
        first[1][1].clear()
        first.clear()
        self.assertEqual(book.noted, second)
        self.assertEqual(len(book), 2)

    def test_lists_within_acts(self):
        book = Logbook(["price"])
        given = ["store"]
        book.act(("messages", given, {"a": given}))
        given.append("more")
        self.assertEqual(book.noted, [(("messages", ["store"], {"a": ["store"]}), [])])
        book.noted[0][0][1].append("more")
        self.assertEqual(book.noted, [(("messages", ["store"], {"a": ["store"]}), [])])
        refused = ("number", given)
        book.act(refused)
        self.assertIs(book.noted[1][0], refused)

    def test_drawn_books(self):
        for seed in range(40):
            draw = Draw(seed)
            keys = [["price"], ["price", "size"]][seed % 2]
            book, net = Logbook(keys), Net(keys)
            log = []
            for _ in range(80):
                act = draw_act(draw, net, WEIGHTS[seed % len(WEIGHTS)])
                log.append((act, expected_outcome(net, act)))
                self.assertEqual(inner(book.act(act)), inner(log[-1][1]))
            self.assertEqual(inner(book.noted), inner(log))
            self.assertIsNone(first_wrong(keys, log))


class FirstWrongTest(unittest.TestCase):
    def test_each_result_changed(self):
        for at, (act, result) in enumerate(STORY):
            for other in other_kinds(result):
                log = STORY[:at] + [(act, other)] + STORY[at + 1:]
                self.assertEqual(first_wrong(["price"], log), at, (act, other))

    def test_each_result_exchanged_for_any_object(self):
        for at, (act, result) in enumerate(STORY):
            for obj in [obj for obj in ODD if obj is not None] + [("error", "UnknownNote"), ("error",), "error"]:
                if result == [] and type(obj) is list and len(obj) == 0:
                    continue
                log = STORY[:at] + [(act, obj)] + STORY[at + 1:]
                self.assertEqual(first_wrong(["price"], log), at, (act, type(obj)))

    def test_each_act_exchanged_for_no_act(self):
        for at in range(0, len(STORY), 5):
            for act in NO_ACTS:
                log = STORY[:at] + [(act, STORY[at][1])] + STORY[at + 1:]
                self.assertEqual(first_wrong(["price"], log), at)
                log = STORY[:at] + [(act, ("error", "InvalidDeed"))] + STORY[at + 1:]
                self.assertEqual(first_wrong(["price"], log), at)

    def test_elements_that_are_no_pairs(self):
        for at in (0, 4, 17, len(STORY) - 1):
            act, result = STORY[at]
            for item in [*ODD, [act, result], (act,), (act, result, None), act, result, {act: 1}, Hostile(), (Hostile(), 1)]:
                self.assertEqual(first_wrong(["price"], STORY[:at] + [item] + STORY[at + 1:]), at)

    def test_objects_that_are_no_logs(self):
        for log in [*[obj for obj in ODD if type(obj) is not list], tuple(STORY), iter(STORY), "", {0: STORY[0]}]:
            check_raised(self, InvalidLog, {"given": log}, first_wrong, ["price"], log)
        self.assertIsNone(first_wrong(["price"], []))
        for log in ([None], [[]], [()], [Hostile()], [[["x"]]]):
            self.assertEqual(first_wrong(["price"], log), 0)

    def test_long_logs(self):
        pair = (("number", "price"), 0)
        self.assertIsNone(first_wrong(["price"], [pair] * 5000))
        self.assertEqual(first_wrong(["price"], [pair] * 4999 + [None]), 4999)
        log = [pair] * 5001
        check_raised(self, InvalidLog, {"given": log}, first_wrong, ["price"], log)
        log = [None] * 5001
        check_raised(self, InvalidLog, {"given": log}, first_wrong, ["price"], log)
        check_raised(self, InvalidKeys, {"given": None}, first_wrong, None, log)

    def test_other_keys(self):
        self.assertEqual(first_wrong(["size"], STORY), 0)
        self.assertEqual(first_wrong(["price", "size"], STORY), 4)

    def test_what_was_passed_in_stays_as_it_is(self):
        log = [(("messages", ["a"], {}), []), (("waiting", "price"), []), (("waiting", "price"), [1])]
        before = inner(log)
        self.assertEqual(first_wrong(["price"], log), 2)
        self.assertEqual(inner(log), before)

    def test_drawn_changes(self):
        """One result, argument or act is changed, left out, doubled or exchanged."""
        wrong = 0
        for seed in range(60):
            keys, log = drawn_log(seed)
            self.assertIsNone(first_wrong(keys, log))
            draw = Draw(seed + 500)
            for _ in range(25):
                other = changed(draw, log)
                expected = wrong_entry(keys, other)
                self.assertEqual(first_wrong(keys, other), expected)
                wrong += expected is not None
        self.assertGreater(wrong, 800)


def changed(draw, log):
    at, other = draw.below(len(log)), draw.below(len(log))
    (act, result), turn = log[at], draw.below(7)
    if turn == 0:
        return log[:at] + [(act, draw.pick(other_kinds(result)))] + log[at + 1:]
    if turn == 1:
        place = 1 + draw.below(len(act) - 1)
        item = draw.pick([*other_kinds(act[place]), draw.below(5), "price", "north"])
        return log[:at] + [(act[:place] + (item,) + act[place + 1:], result)] + log[at + 1:]
    if turn == 2:
        return log[:at] + log[at + 1:]
    if turn == 3:
        return log[:at] + [log[at]] + log[at:]
    if turn == 4:
        mixed = list(log)
        mixed[at], mixed[other] = mixed[other], mixed[at]
        return mixed
    if turn == 5:
        return log[:at] + [(log[other][0], result)] + log[at + 1:]
    return log[:at] + [(act, log[other][1])] + log[at + 1:]


def wrong_entry(keys, log):
    """The first wrong entry, by a net on which the acts are done one by one."""
    net = Net(keys)
    for at, (act, result) in enumerate(log):
        if act[0] not in LOOKS:
            try:
                net.copy().perform(act)
            except InvalidDeed:
                return at
            except CacheError:
                pass
        if inner(expected_outcome(net, act)) != inner(result):
            return at
    return None


if __name__ == "__main__":
    unittest.main()
