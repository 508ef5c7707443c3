"""Point 15: receipts, the judge, and the moment of a receipt."""

import unittest

from slackcache.errors import CacheError, NoAnswer, UnknownQuestion
from slackcache.net import Net
from slackcache.receipts import judge, moment_of_receipt, receipt_of, shown_age
from tests.drawing import WEIGHTS, Draw, draw_deed
from tests.helpers import ODD, Hostile, check_refused, deliver_all, drain, inner, picture, tree

WORDS = ("price", "size", "north", "oslo", "store", "x")


def rows_of(net, name, key):
    """The rows of a receipt that a node gives, by what the net shows."""
    cache = net[name]
    if cache.parent is None:
        return ((name, net.number(key)),)
    row = (name, cache.told(key), cache.allowance(key)) + net[cache.parent].entry(name, key)
    return (row,) + rows_of(net, cache.parent, key)


def is_count(obj):
    return type(obj) is int and obj >= 0


def is_word(obj):
    return type(obj) is str and 1 <= len(obj) <= 8 and all("a" <= letter <= "z" for letter in obj)


def has_form(obj):
    if type(obj) is not tuple or len(obj) != 5 or not is_word(obj[0]) or not all(map(is_count, obj[1:4])):
        return False
    rows = obj[4]
    if type(rows) is not tuple or not rows or any(type(row) is not tuple for row in rows):
        return False
    for row in rows[:-1]:
        if len(row) != 5 or not is_word(row[0]) or not all(map(is_count, row[1:])):
            return False
    return len(rows[-1]) == 2 and type(rows[-1][0]) is str and rows[-1][0] == "store" and is_count(rows[-1][1])


def accepts(obj):
    """The words of point 15, one by one."""
    if not has_form(obj):
        return False
    key, need, floor, number, rows = obj
    names = [row[0] for row in rows]
    if len(set(names)) != len(names):
        return False
    if number < floor:
        return False
    if len(rows) == 1:
        return rows[0][1] == number
    _, told, allowance, _, _ = rows[0]
    if not 0 <= told + allowance - number <= need or told > number:
        return False
    for at in range(len(rows) - 1):
        _, told, allowance, confirmed, granted = rows[at]
        if confirmed > told or granted > allowance:
            return False
        after = rows[at + 1]
        least = after[1] if at + 1 == len(rows) - 1 else after[1] + after[2]
        if confirmed + granted < least:
            return False
    return True


def chain():
    """store - north (1) - oslo (3) - rome (6), with one write of which only north has heard."""
    net = tree(("north", "store", 1), ("oslo", "north", 3), ("rome", "oslo", 6))
    net.write("price", 50)
    net.deliver("store", "north")
    return net


GOOD = ("price", 6, 0, 1, (("rome", 0, 6, 0, 6), ("oslo", 0, 3, 0, 3), ("north", 1, 1, 0, 1), ("store", 1)))


class ReceiptTest(unittest.TestCase):
    def test_answers_at_once(self):
        net = chain()
        net.read("store", "price", 0, floor=1)
        net.read("north", "price", 2)
        net.read("oslo", "price", 3)
        net.read("rome", "price", 6)
        self.assertEqual([receipt_of(net, question) for question in (1, 2, 3, 4)], [
            ("price", 0, 1, 1, (("store", 1),)),
            ("price", 2, 0, 1, (("north", 1, 1, 0, 1), ("store", 1))),
            ("price", 3, 0, 0, (("oslo", 0, 3, 0, 3), ("north", 1, 1, 0, 1), ("store", 1))),
            ("price", 6, 0, 0, (("rome", 0, 6, 0, 6), ("oslo", 0, 3, 0, 3), ("north", 1, 1, 0, 1), ("store", 1))),
        ])
        self.assertEqual([shown_age(receipt_of(net, question)) for question in (1, 2, 3, 4)], [0, 1, 3, 6])
        self.assertTrue(all(judge(receipt_of(net, question)) for question in (1, 2, 3, 4)))

    def test_an_answer_through_several_nodes(self):
        net = chain()
        question = net.read("rome", "price", 1)
        for link in (("rome", "oslo"), ("oslo", "north")):
            with self.assertRaises(NoAnswer):
                receipt_of(net, question)
            net.deliver(*link)
        expected = ("price", 1, 0, 1, (("north", 1, 1, 0, 1), ("store", 1)))
        self.assertEqual((receipt_of(net, question), net.answer(question)), (expected, None))
        self.assertIs(judge(expected), True)
        net.deliver("north", "store")
        net.write("price", 60)
        drain(net)
        self.assertEqual((receipt_of(net, question), net.answer(question)), (expected, (1, 50, "north")))

    def test_an_answer_of_the_store_tells_its_number_at_that_moment(self):
        net = chain()
        question = net.read("rome", "price", 0)
        for link in (("rome", "oslo"), ("oslo", "north"), ("north", "store")):
            net.deliver(*link)
        check_refused(self, net, NoAnswer, {"question": question}, receipt_of, net, question)
        net.write("price", 60)
        net.deliver("north", "store")
        receipt = receipt_of(net, question)
        self.assertEqual(receipt, ("price", 0, 0, 2, (("store", 2),)))
        net.write("price", 70)
        self.assertEqual(receipt_of(net, question), receipt)

    def test_answers_that_were_lost_on_their_way(self):
        for go in (lambda net: net.crash("oslo"), lambda net: net.crash("rome"), lambda net: net.leave("rome")):
            net = chain()
            question = net.read("rome", "price", 1)
            net.deliver("rome", "oslo")
            net.deliver("oslo", "north")
            receipt = receipt_of(net, question)
            go(net)
            drain(net)
            self.assertEqual((receipt_of(net, question), net.answer(question)), (receipt, None))
            self.assertEqual(receipt, ("price", 1, 0, 1, (("north", 1, 1, 0, 1), ("store", 1))))

    def test_no_node_gives_an_answer_that_would_be_lost(self):
        net = chain()
        question = net.read("rome", "price", 1)
        net.deliver("rome", "oslo")
        net.leave("rome")
        drain(net)
        check_refused(self, net, NoAnswer, {"question": question}, receipt_of, net, question)
        net = chain()
        question = net.read("rome", "price", 1)
        net.crash("rome")
        drain(net)
        check_refused(self, net, NoAnswer, {"question": question}, receipt_of, net, question)

    def test_a_lower_and_a_raise_under_way(self):
        net = tree(("north", "store", 4), ("oslo", "north", 9))
        net.change("oslo", "price", 5)
        net.change("north", "price", 6)
        net.deliver("store", "north")
        net.write("price", 5)
        self.assertEqual(net["north"].allowance("price"), 4)
        net.deliver("north", "oslo")
        net.read("oslo", "price", 9)
        expected = (("oslo", 0, 5, 0, 5), ("north", 0, 4, 0, 4), ("store", 1))
        self.assertEqual(receipt_of(net, 1), ("price", 9, 0, 0, expected))
        net = tree(("north", "store", 4), ("oslo", "north", 9))
        net.change("oslo", "price", 5)
        net.read("oslo", "price", 9)
        self.assertEqual(receipt_of(net, 1)[4][0], ("oslo", 0, 9, 0, 5))
        self.assertIs(judge(receipt_of(net, 1)), True)

    def test_wrong_questions(self):
        net = chain()
        for question in [*ODD, 0, 1, -1]:
            check_refused(self, net, UnknownQuestion, {"question": question}, receipt_of, net, question)
        net.read("rome", "price", 0)
        net.read("rome", "price", 9)
        check_refused(self, net, NoAnswer, {"question": 1}, receipt_of, net, 1)
        self.assertEqual(receipt_of(net, 2)[:4], ("price", 9, 0, 0))
        for question in [*ODD, 0, 3, -1, "1", 10**20]:
            check_refused(self, net, UnknownQuestion, {"question": question}, receipt_of, net, question)

    def test_receipts_change_nothing_else_of_a_net(self):
        net = chain()
        net.read("rome", "price", 9)
        twin = net.copy()
        self.assertEqual((twin, receipt_of(twin, 1)), (net, receipt_of(net, 1)))
        twin.read("rome", "price", 9)
        self.assertEqual(receipt_of(twin, 2), receipt_of(twin, 1))
        check_refused(self, net, UnknownQuestion, {"question": 2}, receipt_of, net, 2)
        again = Net.replay(["price"], net.history)
        self.assertEqual((again, receipt_of(again, 1), picture(again)), (net, receipt_of(net, 1), picture(net)))


class JudgeTest(unittest.TestCase):
    def check(self, obj):
        self.assertIs(judge(obj), accepts(obj), obj)
        return judge(obj)

    def test_each_number_at_its_edges(self):
        self.assertTrue(self.check(GOOD[:3] + (0,) + GOOD[4:]))
        accepted = 0
        for at in (1, 2, 3):
            for number in range(9):
                accepted += self.check(GOOD[:at] + (number,) + GOOD[at + 1:])
        for at, row in enumerate(GOOD[4]):
            for place in range(1, len(row)):
                for number in range(9):
                    other = row[:place] + (number,) + row[place + 1:]
                    accepted += self.check(GOOD[:4] + (GOOD[4][:at] + (other,) + GOOD[4][at + 1:],))
        self.assertGreater(accepted, 30)

    def test_the_conditions_one_by_one(self):
        good = ("price", 3, 1, 1, (("oslo", 1, 3, 1, 3), ("north", 2, 2, 1, 2), ("store", 3)))
        self.assertTrue(self.check(good))
        wrong = [
            # A floor above the number, an age above the need, an age below 0, told above the number.
            ("price", 3, 2, 1, good[4]), ("price", 2, 1, 1, good[4]), ("price", 3, 1, 5, good[4]),
            ("price", 3, 0, 0, good[4]),
            # Confirmed above told, granted above the allowance.
            ("price", 3, 1, 1, (("oslo", 1, 3, 2, 3),) + good[4][1:]),
            ("price", 3, 1, 1, (("oslo", 1, 3, 1, 4),) + good[4][1:]),
            ("price", 3, 1, 1, (good[4][0], ("north", 1, 2, 2, 2), good[4][2])),
            # Confirmed and granted below told and the allowance of the next row, or the store's number.
            ("price", 3, 1, 1, (("oslo", 1, 3, 0, 3),) + good[4][1:]),
            ("price", 3, 1, 1, (("oslo", 1, 3, 1, 2),) + good[4][1:]),
            ("price", 3, 1, 1, good[4][:2] + (("store", 4),)),
            # The same name twice.
            ("price", 3, 1, 1, (("north", 1, 3, 1, 3),) + good[4][1:]),
            ("price", 3, 1, 1, (("store", 1, 3, 1, 3),) + good[4][1:]),
            ("price", 3, 1, 1, (good[4][0], ("store", 2, 2, 1, 2), good[4][2])),
        ]
        for obj in wrong:
            self.assertFalse(self.check(obj), obj)

    def test_the_store_alone(self):
        self.assertTrue(self.check(("price", 0, 0, 0, (("store", 0),))))
        self.assertTrue(self.check(("price", 999, 7, 7, (("store", 7),))))
        for number in (6, 8):
            self.assertFalse(self.check(("price", 999, 0, number, (("store", 7),))))
        self.assertFalse(self.check(("price", 999, 8, 7, (("store", 7),))))
        self.assertFalse(self.check(("price", 999, 0, 7, ())))

    def test_great_numbers_and_many_rows(self):
        great = 10**29
        rows = tuple((name, great, great, great, great) for name in ("a", "b", "c")) + (("store", 2 * great),)
        self.assertTrue(self.check(("price", great, great, great, rows)))
        self.assertFalse(self.check(("price", great - 1, great, great, rows)))
        names = [one + other for one in "abcdefghij" for other in "abcdefghij"]
        rows = tuple((name, 0, 5, 0, 5) for name in names) + (("store", 5),)
        self.assertTrue(self.check(("x", 5, 0, 0, rows)))
        self.assertFalse(self.check(("x", 5, 0, 0, rows[:50] + rows[49:])))

    def test_an_allowance_of_0(self):
        self.assertTrue(self.check(("x", 0, 0, 3, (("a", 3, 0, 3, 0), ("store", 3)))))
        self.assertFalse(self.check(("x", 0, 0, 3, (("a", 3, 0, 3, 0), ("store", 4)))))

    def test_objects_of_every_kind(self):
        wrong = [
            *ODD, list(GOOD), GOOD[:4], GOOD + (0,), GOOD[:4] + (list(GOOD[4]),), GOOD[:4] + ((),), GOOD[:4] + ([],),
            GOOD[:4] + (None,), GOOD[:4] + (GOOD[4][-1],), GOOD[:4] + (GOOD[4][:-1],), GOOD[:4] + (GOOD[4] + (1,),),
            GOOD[:4] + ((("store",),),), GOOD[:4] + ((("store", 1, 1),),), GOOD[:4] + ((("shop", 1),),),
            GOOD[:4] + ((["store", 1],),), GOOD[:4] + (((["store"], 1),),), GOOD[:4] + ("store",), str(GOOD),
            {"price": GOOD}, (GOOD,), GOOD[4], Hostile(), [Hostile()],
        ]
        self.assertTrue(judge(GOOD[:3] + (0,) + GOOD[4:]))
        for obj in wrong:
            self.assertFalse(self.check(obj))

    def test_each_item_exchanged_for_another_kind(self):
        good = ("price", 7, 1, 1, (("oslo", 1, 1, 1, 1), ("north", 1, 1, 1, 1), ("store", 1)))
        self.assertTrue(self.check(good))
        others = [None, True, False, 1.0, "1", "Price", "", -1, (), [], {}, (1,), [1], [["x"]], b"a", Hostile(), 0, 2, "x"]
        others.append((((1,),),))
        for at in range(5):
            for obj in others:
                self.check(good[:at] + (obj,) + good[at + 1:])
        for at, row in enumerate(good[4]):
            for obj in [*others, list(row), row[:-1], row + (1,), row + row]:
                self.check(good[:4] + (good[4][:at] + (obj,) + good[4][at + 1:],))
            for place in range(len(row)):
                for obj in others:
                    other = row[:place] + (obj,) + row[place + 1:]
                    self.check(good[:4] + (good[4][:at] + (other,) + good[4][at + 1:],))


def changed(draw, receipt):
    """A receipt with one number, name or row changed, left out, doubled or exchanged."""
    rows = receipt[4]
    at = draw.below(len(rows))
    turn = draw.below(8)
    if turn == 0:
        place = 1 + draw.below(3)
        return receipt[:place] + (max(0, receipt[place] + draw.below(5) - 2),) + receipt[place + 1:]
    if turn == 1:
        row = rows[at]
        place = 1 + draw.below(len(row) - 1)
        row = row[:place] + (max(0, row[place] + draw.below(5) - 2),) + row[place + 1:]
    elif turn == 2:
        row = (draw.pick(WORDS),) + rows[at][1:]
    elif turn == 3:
        return receipt[:4] + (rows[:at] + rows[at + 1:],)
    elif turn == 4:
        return receipt[:4] + (rows[:at] + (rows[at],) + rows[at:],)
    elif turn == 5:
        other = draw.below(len(rows))
        mixed = list(rows)
        mixed[at], mixed[other] = mixed[other], mixed[at]
        return receipt[:4] + (tuple(mixed),)
    elif turn == 6:
        row = draw.pick([list(rows[at]), rows[at] + (0,), rows[at][:-1], (True,) + rows[at][1:], rows[at][:-1] + (True,)])
    else:
        return draw.pick([list(receipt), receipt[:4] + (list(rows),), ("X",) + receipt[1:], receipt[:4], (receipt,)])
    return receipt[:4] + (rows[:at] + (row,) + rows[at + 1:],)


class HistoryTest(unittest.TestCase):
    """Guarantee (j): every answer that is given has a receipt, with the rows of the net at that moment."""

    def test_drawn_histories(self):
        given = at_once = through = lost = refused = depth = 0
        for seed in range(120):
            draw = Draw(seed + 1000)
            keys = [["price"], ["price", "size"]][seed % 2]
            net = Net(keys)
            asked, receipts = {}, {}
            for _ in range(110):
                deed = draw_deed(draw, net, WEIGHTS[seed % len(WEIGHTS)])
                sent = net.messages(deed[1], deed[2]) if deed[0] == "deliver" else []
                down = len(net.messages(deed[2], deed[1])) if sent else 0
                try:
                    result = net.perform(deed)
                except CacheError:
                    continue
                giver = None
                if deed[0] == "read":
                    asked[result] = deed[2:]
                    if net.answer(result) is not None:
                        giver, question = deed[1], result
                        at_once += 1
                if sent and sent[0][0] == "question":
                    question = sent[0][1]
                    if [row[:2] for row in net.messages(deed[2], deed[1])[down:]] == [("answer", question)]:
                        giver = deed[2]
                        through += 1
                if giver is not None:
                    key, need, floor = asked[question]
                    expected = (key, need, floor, net[giver][key][0], rows_of(net, giver, key))
                    receipts[question] = expected
                    given += 1
                    depth = max(depth, len(expected[4]))
                    self.assertIs(judge(expected), True)
                    self.assertLessEqual(net.number(key) - expected[3], shown_age(expected))
                    self.assertLessEqual(shown_age(expected), need)
                    for _ in range(6):
                        other = changed(draw, expected)
                        self.assertIs(judge(other), accepts(other), other)
                        refused += not judge(other)
            for question in asked:
                if question in receipts:
                    self.assertEqual(receipt_of(net, question), receipts[question])
                    if net.answer(question) is None:
                        lost += 1
                    else:
                        self.assertEqual(net.answer(question)[0], receipts[question][3])
                        self.assertEqual(net.answer(question)[2], receipts[question][4][0][0])
                else:
                    check_refused(self, net, NoAnswer, {"question": question}, receipt_of, net, question)
            self.check_moments(draw, net, list(receipts.values()))
        self.assertGreater(min(at_once, through, lost, refused), 30)
        self.assertGreater(depth, 3)

    def check_moments(self, draw, net, receipts):
        """The moment of a receipt against replays of all shorter histories."""
        history = net.history
        nets = [Net.replay(net.key_names, history[:many]) for many in range(len(history) + 1)]
        for receipt in receipts[:4]:
            self.assertIsNotNone(moment_of_receipt(net, receipt))
            for obj in (receipt, changed(draw, receipt), ("price", 0, 0) + receipt[3:]):
                before = inner(net)
                self.assertEqual(moment_of_receipt(net, obj), first_moment(nets, obj), obj)
                self.assertEqual(inner(net), before)


def first_moment(nets, obj):
    if not has_form(obj):
        return None
    key, _, _, number, rows = obj
    name = rows[0][0]
    for moment, net in enumerate(nets):
        if key in net.key_names and name in net and key in net[name]:
            if net[name][key][0] == number and rows_of(net, name, key) == rows:
                return moment
    return None


class MomentTest(unittest.TestCase):
    def test_the_least_moment(self):
        net = chain()
        net.read("store", "price", 0)
        net.write("price", 60)
        net.read("store", "price", 0)
        self.assertEqual(net.history[6], ("write", "price", 50))
        self.assertEqual(moment_of_receipt(net, ("price", 0, 0, 0, (("store", 0),))), 0)
        self.assertEqual(moment_of_receipt(net, ("price", 5, 3, 1, (("store", 1),))), 7)
        self.assertEqual(moment_of_receipt(net, ("price", 0, 0, 2, (("store", 2),))), None)
        drain(net)
        self.assertEqual(net.number("price"), 2)
        self.assertIsNotNone(moment_of_receipt(net, ("price", 0, 0, 2, (("store", 2),))))

    def test_the_last_moment(self):
        net = tree(("north", "store", 2))
        receipt = ("price", 0, 0, 0, (("north", 0, 2, 0, 2), ("store", 1)))
        self.assertIsNone(moment_of_receipt(net, receipt))
        net.write("price", 5)
        self.assertEqual((moment_of_receipt(net, receipt), len(net.history)), (3, 3))
        deliver_all(net, "store", "north")
        self.assertEqual(moment_of_receipt(net, receipt), 3)

    def test_the_number_must_be_that_of_the_copy(self):
        net = tree(("north", "store", 2))
        rows = (("north", 0, 2, 0, 2), ("store", 0))
        self.assertEqual(moment_of_receipt(net, ("price", 9, 0, 0, rows)), 2)
        self.assertIsNone(moment_of_receipt(net, ("price", 9, 0, 1, rows)))
        self.assertIsNone(moment_of_receipt(net, ("price", 9, 0, 1, (("store", 0),))))

    def test_need_and_floor_do_not_hang_on_the_net(self):
        net = tree(("north", "store", 2))
        rows = (("north", 0, 2, 0, 2), ("store", 0))
        self.assertEqual([moment_of_receipt(net, ("price", need, floor, 0, rows)) for need in (0, 2, 2000) for floor in
                          (0, 5)], [2] * 6)

    def test_a_node_that_is_not_there_any_more(self):
        net = tree(("north", "store", 2))
        net.read("north", "price", 2)
        receipt = receipt_of(net, 1)
        net.crash("north")
        net.forget("north")
        self.assertEqual(moment_of_receipt(net, receipt), 2)

    def test_any_object(self):
        net = chain()
        for obj in [
            *ODD, 0, list(GOOD), GOOD[:4], GOOD[:4] + ((),), ("size", 0, 0, 0, (("store", 0),)),
            ("price", 0, 0, 0, [("store", 0)]), ("price", 0, 0, 0, (["store", 0],)), ("price", 0, 0, False, (("store", 0),)),
            ("price", 0, 0, 0, (("store", False),)), ("price", None, 0, 0, (("store", 0),)), Hostile(),
            ("price", 0, 0, 0, (("store", 0, 0, 0, 0), ("store", 0))), ("price", 0, 0, 0, (("rome", 0),)),
            ("price", 0, 0, 0, (("store", 0), ("store", 0))), (Hostile(),) * 5,
        ]:
            before = inner(net)
            self.assertIsNone(moment_of_receipt(net, obj))
            self.assertEqual(inner(net), before)


if __name__ == "__main__":
    unittest.main()
