"""Point 14: tokens and sessions."""

import unittest

from slackcache.errors import (
    InvalidNeed, InvalidOperand, InvalidToken, InvalidValue, LimitExceeded, Overtaken, UnknownKey, UnknownNode,
    UnknownQuestion,
)
from slackcache.net import Net
from slackcache.sessions import Session, Token
from tests.helpers import ODD, Hostile, check_raised, check_refused, deliver_all, drain, inner, picture, tree

GREAT = 10**30 - 1


class TokenTest(unittest.TestCase):
    def test_floors_of_0_are_left_out(self):
        for floors in ({}, {"price": 0}, {"price": 0, "size": 0}):
            token = Token(floors)
            self.assertEqual((token.floors, bool(token), token == Token({})), ({}, False, True))
        token = Token({"price": 0, "size": 3})
        self.assertEqual((token.floors, bool(token)), ({"size": 3}, True))
        self.assertEqual(token, Token({"size": 3}))

    def test_floors_of_thirty_digits(self):
        token = Token({"price": GREAT, "size": 1})
        self.assertEqual((token.floors, token["price"]), ({"price": GREAT, "size": 1}, GREAT))
        self.assertEqual((token | Token({"price": GREAT - 1, "size": GREAT})).floors, {"price": GREAT, "size": GREAT})

    def test_the_floor_of_any_object(self):
        token = Token({"price": 4, "size": 0})
        self.assertEqual([token["price"], token["size"], token["color"]], [4, 0, 0])
        for obj in [*ODD, 4, "Price"]:
            self.assertEqual(token[obj], 0)
        self.assertIs(type(token["color"]), int)

    def test_the_token_with_the_greater_floors(self):
        one, other = Token({"a": 3, "b": 1}), Token({"c": 2, "b": 5})
        self.assertEqual((one | other).floors, {"a": 3, "b": 5, "c": 2})
        self.assertEqual(one | other, other | one)
        self.assertEqual((one | Token({}), Token({}) | one, one | one), (one, one, one))
        self.assertEqual((one.floors, other.floors), ({"a": 3, "b": 1}, {"c": 2, "b": 5}))
        self.assertFalse(Token({}) | Token({"a": 0}))
        for obj in [*ODD, {"a": 3}, ("a", 3), 0]:
            check_raised(self, InvalidOperand, {"given": obj}, lambda: one | obj)

    def test_equality(self):
        token = Token({"a": 3, "b": 1})
        self.assertTrue(token == Token({"b": 1, "a": 3, "c": 0}))
        self.assertFalse(token != Token({"b": 1, "a": 3}))
        for other in [Token({"a": 3}), Token({"a": 3, "b": 2}), Token({}), {"a": 3, "b": 1}, token.floors, 1, None]:
            self.assertFalse(token == other)
            self.assertTrue(token != other)

    def test_wrong_floors(self):
        for floors in [
            obj for obj in ODD if not (isinstance(obj, dict) and not obj)
        ] + [
            {"a": -1}, {"a": True}, {"a": False}, {"a": None}, {"a": "1"}, {"a": 1.0}, {"A": 1}, {"": 0}, {1: 1},
            {"ninechars": 1}, {("a",): 1}, {None: 0}, {"a": 1, "b": True}, {"a": Hostile()}, [("a", 1)], {"a"}, "a",
            {"a": [1]}, {True: 1}, Token({"a": 1}),
        ]:
            check_raised(self, InvalidToken, {"given": floors}, Token, floors)

    def test_what_was_passed_in_is_copied(self):
        floors = {"a": 3, "b": 0}
        token = Token(floors)
        floors["a"] = 9
        self.assertEqual(token.floors, {"a": 3})
        token.floors["a"] = 9
        token.floors.clear()
        self.assertEqual((token.floors, token["a"]), ({"a": 3}, 3))


class FloorTest(unittest.TestCase):
    def test_own_writes(self):
        net = Net(["price", "size"])
        session = Session(net)
        self.assertEqual([session.floor("price"), session.floor("size")], [0, 0])
        self.assertEqual([session.write("price", 5), session.write("price", 6), session.write("size", 7)], [1, 2, 1])
        self.assertEqual([session.floor("price"), session.floor("size")], [2, 1])
        net.write("price", 8)
        self.assertEqual(session.floor("price"), 2)
        self.assertEqual(net.history[:3], (("write", "price", 5), ("write", "price", 6), ("write", "size", 7)))

    def test_own_writes_that_wait(self):
        net = tree(("north", "store", 1))
        session, other = Session(net), Session(net)
        self.assertEqual([session.write("price", 1), other.write("price", 2), session.write("price", 3)], [1, None, None])
        self.assertEqual([session.write("price", 4), net.write("price", 5)], [None, None])
        self.assertEqual((net.waiting("price"), session.floor("price"), other.floor("price")), ([2, 3, 4, 5], 1, 0))
        expected = [(2, 1, 2), (3, 3, 2), (4, 4, 2), (5, 4, 2)]
        for row in expected:
            net.deliver("store", "north")
            net.deliver("north", "store")
            self.assertEqual((net.number("price"), session.floor("price"), other.floor("price")), row)
        drain(net)
        self.assertEqual(session.write("price", 9), 6)
        self.assertEqual((session.floor("price"), other.floor("price")), (6, 2))
        self.assertIsNone(session.write("price", 9))
        self.assertEqual(session.floor("price"), 6)
        drain(net)
        self.assertEqual(session.floor("price"), 7)

    def test_many_writes_that_wait(self):
        net = tree(("north", "store", 3))
        session = Session(net)
        for turn in range(60):
            session.write("price", turn)
            if turn % 3:
                drain(net)
            last = net.number("price")
            self.assertEqual(session.floor("price"), last)
        self.assertEqual(net.number("price"), 60)

    def test_writes_that_several_deliveries_free(self):
        net = tree(("north", "store", 2), ("oslo", "store", 5))
        session = Session(net)
        for value in range(6):
            session.write("price", value)
        self.assertEqual((net.number("price"), session.floor("price")), (2, 2))
        deliver_all(net, "store", "north")
        net.deliver("north", "store")
        self.assertEqual((net.number("price"), session.floor("price")), (3, 3))
        net.crash("north")
        self.assertEqual(session.floor("price"), 3)
        net.forget("north")
        self.assertEqual((net.number("price"), session.floor("price")), (5, 5))

    def test_floors_of_unknown_keys(self):
        net = Net(["price"])
        session = Session(net)
        for obj in [*ODD, "size", "store"]:
            check_refused(self, net, UnknownKey, {"word": obj}, session.floor, obj)

    def test_refused_writes_change_no_floor(self):
        net = tree(("north", "store", 1))
        session = Session(net)
        session.write("price", 1)
        for key in [*ODD, "size"]:
            check_refused(self, net, UnknownKey, {"word": key}, session.write, key, None)
        for value in [*ODD, "1"]:
            check_refused(self, net, InvalidValue, {"given": value}, session.write, "price", value)
        for _ in range(20):
            net.write("price", 1)
        check_refused(self, net, LimitExceeded, {"limit": 20}, session.write, "price", 1)
        drain(net)
        self.assertEqual(session.floor("price"), 1)


class PlaceTest(unittest.TestCase):
    def test_moving(self):
        net = tree(("north", "store", 2), ("oslo", "north", 3))
        session = Session(net)
        self.assertEqual(session.place, "store")
        for name in ("north", "oslo", "oslo", "store"):
            self.assertIsNone(session.move(name))
            self.assertEqual(session.place, name)
        session.move("oslo")
        for name in [*ODD, "rome", "price"]:
            check_refused(self, net, UnknownNode, {"node": name}, session.move, name)
            self.assertEqual(session.place, "oslo")

    def test_reads_at_the_place_with_the_floor(self):
        net = tree(("north", "store", 2))
        session = Session(net)
        self.assertEqual(session.read("price", 0), 1)
        session.write("price", 5)
        session.move("north")
        self.assertEqual((session.read("price", 9), net.read("north", "price", 9), session.read("price", 1)), (2, 3, 4))
        self.assertEqual(net.history[-4:], (
            ("write", "price", 5), ("read", "north", "price", 9, 1), ("read", "north", "price", 9, 0),
            ("read", "north", "price", 1, 1),
        ))
        self.assertEqual([net.answer(at) for at in (1, 2, 3, 4)], [(0, 0, "store"), None, (0, 0, "north"), None])
        self.assertEqual(session.pending, (1, 2, 4))

    def test_wrong_reads(self):
        net = tree(("north", "store", 2))
        session = Session(net)
        for key in [*ODD, "size"]:
            check_refused(self, net, UnknownKey, {"word": key}, session.read, key, -1)
        for need in [*ODD, -1, 1000]:
            check_refused(self, net, InvalidNeed, {"given": need}, session.read, "price", need)
        session.move("north")
        net.crash("north")
        for key in ("price", "size", None, Hostile()):
            check_refused(self, net, UnknownNode, {"node": "north"}, session.read, key, -1)
        self.assertEqual((session.pending, session.place), ((), "north"))

    def test_a_place_that_goes_and_comes_back(self):
        for go in ("crash", "leave"):
            net = tree(("north", "store", 2), ("oslo", "store", 2))
            session = Session(net)
            session.move("north")
            question = session.read("price", 0)
            getattr(net, go)("north")
            drain(net)
            self.assertEqual((session.place, session.take(question), session.pending), ("north", None, (1,)))
            check_refused(self, net, UnknownNode, {"node": "north"}, session.read, "price", 9)
            check_refused(self, net, UnknownNode, {"node": "north"}, session.move, "north")
            self.assertEqual(session.write("price", 4), 1)
            if go == "crash":
                net.recover("north")
            else:
                net.join("north", "oslo", {"price": 2})
            second = session.read("price", 9)
            drain(net)
            self.assertEqual((session.take(question), session.take(second), session.pending), (None, (1, 4), (1,)))


class TakeTest(unittest.TestCase):
    def test_answers_that_are_there_or_not_yet(self):
        net = tree(("north", "store", 2))
        session = Session(net)
        session.move("north")
        question = session.read("price", 0)
        self.assertEqual((session.take(question), session.pending), (None, (1,)))
        net.deliver("north", "store")
        self.assertEqual((session.take(question), session.pending), (None, (1,)))
        net.deliver("store", "north")
        self.assertEqual((session.pending, session.take(question), session.pending), ((1,), (0, 0), ()))

    def test_in_any_order_and_again(self):
        net = Net(["price", "size"])
        session = Session(net)
        rows = []
        for value in range(4):
            net.write("price", value)
            net.write("size", -value)
            rows.append((session.read("price", 0), session.read("size", 0)))
        self.assertEqual(session.pending, (1, 2, 3, 4, 5, 6, 7, 8))
        self.assertEqual(session.take(3), (2, 1))
        self.assertEqual(session.take(8), (4, -3))
        self.assertEqual(session.pending, (1, 2, 4, 5, 6, 7))
        self.assertEqual((session.floor("price"), session.floor("size")), (2, 4))
        for question in (1, 2, 4, 6):
            check_refused(self, net, Overtaken, {"question": question}, session.take, question)
        self.assertEqual((session.take(3), session.take(8)), ((2, 1), (4, -3)))
        self.assertEqual(session.take(5), (3, 2))
        check_refused(self, net, Overtaken, {"question": 3}, session.take, 3)
        self.assertEqual((session.take(7), session.take(7)), ((4, 3), (4, 3)))
        check_refused(self, net, Overtaken, {"question": 5}, session.take, 5)
        self.assertEqual((session.pending, session.floor("price")), ((1, 2, 4, 6), 4))

    def test_overtaken_by_an_own_write(self):
        net = tree(("north", "store", 1))
        session = Session(net)
        session.move("north")
        first = session.read("price", 1)
        self.assertEqual(session.write("price", 5), 1)
        check_refused(self, net, Overtaken, {"question": first}, session.take, first)
        self.assertEqual((session.pending, session.floor("price")), ((1,), 1))
        self.assertIsNone(session.write("price", 6))
        net.deliver("store", "north")
        second = session.read("price", 1)
        self.assertEqual(session.take(second), (1, 5))
        self.assertEqual(session.take(second), (1, 5))
        net.deliver("north", "store")
        self.assertEqual(net.number("price"), 2)
        check_refused(self, net, Overtaken, {"question": second}, session.take, second)
        self.assertEqual(session.pending, (1,))

    def test_overtaken_by_a_token(self):
        net = tree(("north", "store", 2))
        session = Session(net)
        session.move("north")
        first, second = session.read("price", 2), session.read("price", 2)
        self.assertEqual(session.take(second), (0, 0))
        net.write("price", 5)
        session.hand(Token({"price": 1}))
        for question in (first, second):
            check_refused(self, net, Overtaken, {"question": question}, session.take, question)
        self.assertEqual(session.pending, (first,))

    def test_another_key_does_not_overtake(self):
        net = Net(["price", "size"])
        session = Session(net)
        question = session.read("price", 0)
        session.write("size", 4)
        self.assertEqual(session.take(question), (0, 0))

    def test_other_questions(self):
        net = tree(("north", "store", 2))
        session, other = Session(net), Session(net)
        own, foreign, bare = session.read("price", 0), other.read("price", 0), net.read("store", "price", 0)
        for question in [*ODD, foreign, bare, 0, 4, -1, 10**20, "1"]:
            check_refused(self, net, UnknownQuestion, {"question": question}, session.take, question)
        self.assertEqual((session.take(own), other.take(foreign)), ((0, 0), (0, 0)))
        check_refused(self, net, UnknownQuestion, {"question": own}, other.take, own)
        self.assertEqual((session.pending, other.pending), ((), ()))

    def test_lost_answers_stay_pending(self):
        net = tree(("north", "store", 2), ("oslo", "north", 3))
        session = Session(net)
        session.move("oslo")
        question = session.read("price", 0)
        net.deliver("oslo", "north")
        net.crash("north")
        drain(net)
        net.recover("north")
        drain(net)
        self.assertEqual((session.take(question), session.pending), (None, (1,)))


class HandTest(unittest.TestCase):
    def test_sessions_hand_tokens_to_one_another(self):
        net = tree(("north", "store", (2, 2)), ("oslo", "store", (2, 2)), keys=("price", "size"))
        one, other = Session(net), Session(net)
        self.assertFalse(one.token())
        one.write("price", 5)
        other.write("size", 6)
        self.assertEqual((one.token().floors, other.token().floors), ({"price": 1}, {"size": 1}))
        self.assertIsNone(other.hand(one.token()))
        self.assertEqual((one.token().floors, other.token().floors), ({"price": 1}, {"price": 1, "size": 1}))
        other.move("oslo")
        question = other.read("price", 9)
        self.assertEqual(net.history[-1], ("read", "oslo", "price", 9, 1))
        drain(net)
        self.assertEqual(other.take(question), (1, 5))
        one.hand(other.token() | Token({"price": 0}))
        self.assertEqual(one.token(), other.token())
        self.assertEqual([one.floor("price"), one.floor("size")], [1, 1])

    def test_tokens_never_lower_a_floor(self):
        net = Net(["price"])
        session = Session(net)
        for value in range(3):
            session.write("price", value)
        for floor in (0, 1, 2, 3):
            session.hand(Token({"price": floor}))
            self.assertEqual(session.floor("price"), 3)

    def test_own_writes_that_wait_are_in_the_token_when_they_are_accepted(self):
        net = tree(("north", "store", 1))
        session = Session(net)
        session.write("price", 1)
        session.write("price", 2)
        token = session.token()
        drain(net)
        self.assertEqual((token.floors, session.token().floors), ({"price": 1}, {"price": 2}))

    def test_wrong_tokens(self):
        net = Net(["price", "size"])
        session = Session(net)
        net.write("price", 5)
        wrong = [
            Token({"color": 1}), Token({"price": 1, "color": 1}), Token({"price": 2}), Token({"price": 1, "size": 1}),
            Token({"price": GREAT}), {"price": 1}, {}, ("price", 1),
        ]
        for token in [*ODD, *wrong]:
            before = inner(session)
            check_refused(self, net, InvalidToken, {"given": token}, session.hand, token)
            self.assertEqual(inner(session), before)
        session.hand(Token({"price": 1, "color": 0}))
        self.assertEqual(session.token().floors, {"price": 1})
        net.write("size", 5)
        session.hand(Token({"size": 1}))
        self.assertEqual(session.token().floors, {"price": 1, "size": 1})

    def test_looking_and_handing_leave_the_net_as_it_is(self):
        net = tree(("north", "store", 2))
        session = Session(net)
        net.write("price", 5)
        before = (picture(net), inner(net))
        session.move("north")
        session.hand(Token({"price": 1}))
        self.assertEqual((session.floor("price"), session.pending, session.place), (1, (), "north"))
        session.token()
        self.assertEqual((picture(net), inner(net)), before)


if __name__ == "__main__":
    unittest.main()
