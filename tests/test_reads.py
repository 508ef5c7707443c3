"""Point 9: bounds, reads, questions, answers, and answers that are lost."""

import unittest

from slackcache.errors import InvalidNeed, UnknownKey, UnknownNode, UnknownQuestion
from slackcache.net import Net
from tests.helpers import ODD, check_refused, deliver_all, drain, tree


def chain():
    """store - north (1) - oslo (3) - rome (6), with one write of which only north has heard."""
    net = tree(("north", "store", 1), ("oslo", "north", 3), ("rome", "oslo", 6))
    net.write("price", 50)
    net.deliver("store", "north")
    return net


class AtOnceTest(unittest.TestCase):
    def test_the_store_answers_everything(self):
        net = Net(["price", "size"])
        net.write("size", 8)
        self.assertEqual(net.read("store", "size", 0), 1)
        self.assertEqual(net.read("store", "size", 999, floor=1), 2)
        self.assertEqual(net.read("store", "price", 0, floor=0), 3)
        self.assertEqual([net.answer(at) for at in (1, 2, 3)], [(1, 8, "store"), (1, 8, "store"), (0, 0, "store")])
        self.assertEqual(list(net.links()), [])
        self.assertEqual(net.history[1:], (
            ("read", "store", "size", 0, 0), ("read", "store", "size", 999, 1), ("read", "store", "price", 0, 0),
        ))

    def test_needs_just_below_at_and_above_the_bound(self):
        net = tree(("north", "store", 3), ("oslo", "north", 5))
        for value in (10, 20, 30):
            net.write("price", value)
        deliver_all(net, "store", "north")
        self.assertEqual(net["north"].bound("price"), 2)
        found = [net["north"].can_answer("price", need) for need in (0, 1, 2, 3, 999)]
        self.assertEqual(found, [False, False, True, True, True])
        self.assertEqual([net.read("north", "price", need) for need in (1, 2, 3)], [1, 2, 3])
        expected = [None, (3, 30, "north"), (3, 30, "north")]
        self.assertEqual([net.answer(question) for question in (1, 2, 3)], expected)
        self.assertEqual(net.messages("north", "store")[2:], [("question", 1, "price", 1, 0)])

    def test_floors_just_below_at_and_above_the_number(self):
        net = tree(("north", "store", 5))
        for value in (10, 20, 30):
            net.write("price", value)
        net.deliver("store", "north")
        net.deliver("store", "north")
        self.assertEqual(net["north"]["price"], (2, 20))
        found = [net["north"].can_answer("price", 99, floor=floor) for floor in (0, 1, 2, 3)]
        self.assertEqual(found, [True, True, True, False])
        self.assertEqual([net.read("north", "price", 5, floor=floor) for floor in (1, 2, 3)], [1, 2, 3])
        self.assertEqual([net.answer(at) for at in (1, 2, 3)], [(2, 20, "north"), (2, 20, "north"), None])
        self.assertEqual(net.messages("north", "store")[-1], ("question", 3, "price", 5, 3))
        drain(net)
        self.assertEqual(net.answer(3), (3, 30, "store"))

    def test_need_and_floor_must_both_hold(self):
        net = tree(("north", "store", 2))
        net.write("price", 10)
        found = [net["north"].can_answer("price", need, floor=floor) for need in (1, 2) for floor in (0, 1)]
        self.assertEqual(found, [False, False, True, False])

    def test_a_node_without_a_copy_asks_its_parent(self):
        net = tree(("north", "store", (2, 2)), keys=("price", "size"), drained=False)
        net.deliver("store", "north")
        self.assertEqual([net.read("north", "size", 999), net.read("north", "price", 999)], [1, 2])
        self.assertEqual([net.answer(1), net.answer(2)], [None, (0, 0, "north")])
        self.assertIs(net["north"].can_answer("size", 999), False)
        self.assertEqual(net.messages("north", "store"), [("question", 1, "size", 999, 0)])
        net.deliver("north", "store")
        self.assertEqual(
            net.messages("store", "north"), [("copy", "size", 0, 0, 2), ("answer", 1, 0, 0, "store")]
        )
        self.assertEqual(net.answer(1), None)
        drain(net)
        self.assertEqual(net.answer(1), (0, 0, "store"))

    def test_wrong_reads(self):
        net = tree(("north", "store", 2))
        net.write("price", 10)
        for obj in [*ODD, "rome", "stor"]:
            check_refused(self, net, UnknownNode, {"node": obj}, net.read, obj, obj, obj, floor=obj)
        for obj in [*ODD, "size", "north"]:
            check_refused(self, net, UnknownKey, {"word": obj}, net.read, "north", obj, obj, floor=obj)
            check_refused(self, net, UnknownKey, {"word": obj}, net["north"].can_answer, obj, obj, floor=obj)
        for call in (lambda *more, **most: net.read("north", *more, **most), net["north"].can_answer):
            for obj in [*ODD, "1", -1, 1000]:
                check_refused(self, net, InvalidNeed, {"given": obj}, call, "price", obj, floor=-5)
            for obj in [*ODD, "1", -1, 2]:
                check_refused(self, net, InvalidNeed, {"given": obj}, call, "price", 0, floor=obj)
        self.assertEqual([net.read("north", "price", 0, floor=1), net.read("north", "price", 999)], [1, 2])

    def test_question_numbers(self):
        net = tree(("north", "store", 2))
        for obj in [*ODD, "1", 0, 1, -1]:
            check_refused(self, net, UnknownQuestion, {"question": obj}, net.answer, obj)
        net.read("north", "price", 5)
        net.read("north", "price", 0)
        self.assertEqual([net.answer(1), net.answer(2)], [(0, 0, "north"), None])
        for obj in [*ODD, "1", 0, 3, -1, 10**20]:
            check_refused(self, net, UnknownQuestion, {"question": obj}, net.answer, obj)


class QuestionTest(unittest.TestCase):
    def test_a_question_through_several_nodes(self):
        net = chain()
        self.assertEqual(net.read("rome", "price", 0), 1)
        asked = ("question", 1, "price", 0, 0)
        self.assertEqual(net.messages("rome", "oslo"), [asked])
        self.assertEqual(net.deliver("rome", "oslo"), asked)
        self.assertEqual(net.messages("oslo", "north"), [asked])
        self.assertEqual(net.deliver("oslo", "north"), asked)
        self.assertEqual(net.messages("north", "store"), [("confirm", "price", 1), asked])
        net.deliver("north", "store")
        net.deliver("north", "store")
        told = ("answer", 1, 1, 50, "store")
        self.assertEqual(net.messages("store", "north"), [told])
        net.write("price", 60)
        self.assertEqual(net.deliver("store", "north"), told)
        self.assertEqual(net.messages("north", "oslo"), [("update", "price", 1, 50), told])
        net.deliver("north", "oslo")
        net.deliver("north", "oslo")
        self.assertEqual(net.messages("oslo", "rome"), [("update", "price", 1, 50), told])
        net.deliver("oslo", "rome")
        self.assertIsNone(net.answer(1))
        self.assertEqual(net.deliver("oslo", "rome"), told)
        self.assertEqual(net.answer(1), (1, 50, "store"))

    def test_the_first_node_that_can_answers_with_its_copy_and_name(self):
        for need, floor, name, got in ((0, 0, "store", (1, 50)), (1, 0, "north", (1, 50)), (3, 0, "oslo", (0, 0)),
                                       (2, 0, "north", (1, 50)), (3, 1, "north", (1, 50)), (5, 0, "oslo", (0, 0)),
                                       (0, 1, "store", (1, 50)), (6, 0, "rome", (0, 0)), (6, 1, "north", (1, 50))):
            net = chain()
            question = net.read("rome", "price", need, floor=floor)
            for link in (("rome", "oslo"), ("oslo", "north"), ("north", "store")):
                deliver_all(net, *link)
            way = ["store", "north", "oslo", "rome"]
            sent = [at for at in range(3) if ("answer", 1, *got, name) in net.messages(way[at], way[at + 1])]
            self.assertEqual(sent, [way.index(name)] if name != "rome" else [])
            drain(net)
            self.assertEqual(net.answer(question), (*got, name))

    def test_a_node_on_the_way_answers_if_it_has_heard_by_then(self):
        net = chain()
        net.read("rome", "price", 6, floor=1)
        net.deliver("north", "oslo")
        net.deliver("rome", "oslo")
        self.assertEqual(net.messages("oslo", "rome"), [("update", "price", 1, 50), ("answer", 1, 1, 50, "oslo")])
        self.assertEqual(net.messages("oslo", "north"), [("confirm", "price", 1)])

    def test_several_questions_keep_their_order_and_their_ways(self):
        net = tree(("north", "store", 1), ("oslo", "north", 1), ("rome", "north", 1), keys=("a", "b"))
        net.write("b", 9)
        asked = [net.read(*row, 0) for row in (("rome", "a"), ("oslo", "b"), ("north", "a"), ("rome", "b"))]
        self.assertEqual(asked, [1, 2, 3, 4])
        net.deliver("oslo", "north")
        deliver_all(net, "rome", "north")
        self.assertEqual([message[1] for message in net.messages("north", "store")], [3, 2, 1, 4])
        deliver_all(net, "north", "store")
        self.assertEqual([message[1] for message in net.messages("store", "north")[1:]], [3, 2, 1, 4])
        deliver_all(net, "store", "north")
        self.assertEqual([net.answer(at) for at in asked], [None, None, (0, 0, "store"), None])
        self.assertEqual([message[1:] for message in net.messages("north", "oslo")], [("b", 1, 9), (2, 1, 9, "store")])
        self.assertEqual([message[1] for message in net.messages("north", "rome")], ["b", 1, 4])
        drain(net)
        expected = [(0, 0, "store"), (1, 9, "store"), (0, 0, "store"), (1, 9, "store")]
        self.assertEqual([net.answer(at) for at in asked], expected)

    def test_a_later_write_does_not_change_an_answer(self):
        net = tree(("north", "store", 3))
        net.read("north", "price", 3)
        net.read("north", "price", 2)
        net.deliver("north", "store")
        for value in (1, 2, 3):
            net.write("price", value)
        drain(net)
        self.assertEqual([net.answer(1), net.answer(2)], [(0, 0, "north"), (0, 0, "store")])

    def test_bounds_shrink_as_updates_come_that_cannot_be_told(self):
        net = tree(("hub", "store", 2), ("ann", "hub", 2))
        bounds = [net["hub"].bound("price")]
        for value in (1, 2):
            net.write("price", value)
            net.deliver("store", "hub")
            bounds.append(net["hub"].bound("price"))
        self.assertEqual(bounds, [2, 1, 0])
        self.assertEqual(net.answer(net.read("hub", "price", 0)), (2, 2, "hub"))


class LostTest(unittest.TestCase):
    def test_the_asked_node_left_before_the_question_arrived(self):
        net = chain()
        net.read("rome", "price", 0)
        net.leave("rome")
        self.assertEqual(net.messages("rome", "oslo"), [("question", 1, "price", 0, 0), ("gone",)])
        for link in (("rome", "oslo"), ("oslo", "north"), ("north", "store"), ("north", "store")):
            net.deliver(*link)
        self.assertEqual(net.messages("store", "north"), [])
        drain(net)
        self.assertIsNone(net.answer(1))

    def test_a_node_that_could_answer_sends_nothing_and_nothing_further(self):
        net = chain()
        net.read("rome", "price", 3)
        net.leave("rome")
        net.deliver("rome", "oslo")
        self.assertEqual((net.messages("oslo", "north"), net.messages("oslo", "rome")), ([], []))
        self.assertIsNone(net.answer(1))

    def test_the_asked_node_left_while_the_answer_was_on_its_way(self):
        for again in (False, True):
            net = chain()
            net.read("rome", "price", 1)
            net.deliver("rome", "oslo")
            net.deliver("oslo", "north")
            answer = ("answer", 1, 1, 50, "north")
            self.assertEqual(net.messages("north", "oslo")[-1], answer)
            net.leave("rome")
            net.deliver("rome", "oslo")
            if again:
                net.join("rome", "oslo", {"price": 9})
            self.assertEqual(net.messages("north", "oslo")[-1], answer)
            self.assertEqual(deliver_all(net, "north", "oslo")[-1], answer)
            sent = [message[0] for message in net.messages("oslo", "rome")]
            self.assertEqual(sent, ["copy", "update"] if again else [])
            drain(net)
            self.assertIsNone(net.answer(1))

    def test_an_answer_on_the_link_to_a_node_that_leaves_is_lost(self):
        net = chain()
        net.read("rome", "price", 3)
        net.deliver("rome", "oslo")
        self.assertEqual(net.messages("oslo", "rome"), [("answer", 1, 0, 0, "oslo")])
        net.leave("rome")
        self.assertEqual(net.messages("oslo", "rome"), [])
        net.deliver("rome", "oslo")
        net.join("rome", "oslo", {"price": 9})
        drain(net)
        self.assertIsNone(net.answer(1))

    def test_the_asked_node_crashed_and_may_be_there_again_when_the_question_arrives(self):
        for again in (False, True):
            net = chain()
            net.read("rome", "price", 0)
            net.deliver("rome", "oslo")
            net.crash("rome")
            if again:
                net.recover("rome")
            kinds = [message[0] for message in drain(net)]
            self.assertIn("question", kinds)
            self.assertNotIn("answer", kinds)
            self.assertIsNone(net.answer(1))

    def test_a_node_on_the_way_crashed_and_is_there_again(self):
        net = chain()
        net.read("rome", "price", 0)
        net.deliver("rome", "oslo")
        net.deliver("oslo", "north")
        net.crash("oslo")
        self.assertNotIn("rome", net)
        net.recover("oslo")
        deliver_all(net, "north", "oslo")
        net.join("rome", "oslo", {"price": 6})
        deliver_all(net, "oslo", "rome")
        self.assertEqual(net.messages("north", "store")[-1], ("question", 1, "price", 0, 0))
        deliver_all(net, "north", "store")
        self.assertEqual(net.messages("store", "north"), [])
        drain(net)
        self.assertIsNone(net.answer(1))

    def test_the_answer_ends_at_the_next_node_though_all_names_are_there_again(self):
        net = chain()
        net.read("rome", "price", 0)
        for link in (("rome", "oslo"), ("oslo", "north"), ("north", "store"), ("north", "store")):
            net.deliver(*link)
        answer = ("answer", 1, 1, 50, "store")
        self.assertEqual(net.messages("store", "north"), [answer])
        net.crash("oslo")
        net.recover("oslo")
        deliver_all(net, "north", "oslo")
        net.join("rome", "oslo", {"price": 6})
        deliver_all(net, "oslo", "rome")
        self.assertEqual(net.messages("store", "north"), [answer])
        self.assertEqual(net.deliver("store", "north"), answer)
        self.assertEqual(list(net.links()), [])
        self.assertIsNone(net.answer(1))

    def test_the_answer_ends_early_if_the_node_far_below_is_gone(self):
        net = chain()
        net.read("rome", "price", 0)
        for link in (("rome", "oslo"), ("oslo", "north"), ("north", "store"), ("north", "store")):
            net.deliver(*link)
        net.leave("rome")
        net.deliver("store", "north")
        self.assertEqual(net.messages("north", "oslo"), [("update", "price", 1, 50)])

    def test_messages_of_the_links_of_crashed_nodes_are_lost(self):
        net = chain()
        net.read("rome", "price", 1)
        net.read("oslo", "price", 1)
        net.deliver("rome", "oslo")
        net.deliver("oslo", "north")
        self.assertEqual(net.messages("oslo", "north"), [("question", 1, "price", 1, 0)])
        self.assertEqual(net.messages("north", "oslo")[-1], ("answer", 2, 1, 50, "north"))
        net.crash("oslo")
        self.assertEqual([net.messages("oslo", "north"), net.messages("north", "oslo")], [[], []])
        net.recover("oslo")
        drain(net)
        self.assertEqual([net.answer(1), net.answer(2)], [None, None])

    def test_the_parent_of_the_asked_node_crashed(self):
        net = chain()
        net.read("north", "price", 0)
        deliver_all(net, "north", "store")
        self.assertEqual(net.messages("store", "north"), [("answer", 1, 1, 50, "store")])
        net.crash("north")
        net.recover("north")
        self.assertEqual(net.messages("store", "north"), [("copy", "price", 1, 50, 1)])
        drain(net)
        self.assertIsNone(net.answer(1))

    def test_the_asked_node_is_there_again_below_another_node(self):
        net = tree(("north", "store", 1), ("south", "store", 1), ("rome", "north", 4))
        net.read("rome", "price", 0)
        net.deliver("rome", "north")
        net.leave("rome")
        net.deliver("rome", "north")
        net.join("rome", "south", {"price": 4})
        drain(net)
        self.assertIsNone(net.answer(1))
        self.assertEqual(net["rome"].parent, "south")

    def test_other_questions_are_not_lost(self):
        net = chain()
        asked = [net.read(name, "price", 0) for name in ("rome", "oslo", "north")]
        deliver_all(net, "rome", "oslo")
        deliver_all(net, "oslo", "north")
        net.crash("rome")
        net.recover("rome")
        asked.append(net.read("rome", "price", 0))
        drain(net)
        told = (1, 50, "store")
        self.assertEqual([net.answer(question) for question in asked], [None, told, told, told])

    def test_an_answer_that_is_there_stays(self):
        net = chain()
        asked = [net.read("rome", "price", 6), net.read("rome", "price", 0)]
        drain(net)
        net.crash("north")
        self.assertEqual([net.answer(question) for question in asked], [(0, 0, "rome"), (1, 50, "store")])


if __name__ == "__main__":
    unittest.main()
