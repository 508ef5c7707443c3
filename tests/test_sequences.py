"""Point 22: sequences, pushes, questions, reads that need a push and two reads that need two."""

import itertools
import time
import unittest

from slackcache.errors import InvalidSequence
from slackcache.planning import check_pushes, fewest_pushes, run_policy
from tests.drawing import Draw
from tests.helpers import ODD, check_raised, inner


def costs(sequence, pushes):
    """How many questions the reads cost with pushes after these writes."""
    age = questions = 0
    for at, item in enumerate(sequence):
        if item == "write":
            age = 0 if at in pushes else age + 1
        elif item[1] < age:
            questions += 1
            age = 0
    return questions


def writes_of(sequence):
    return [at for at, item in enumerate(sequence) if item == "write"]


def serves_alone(sequence, read, push):
    """Whether a push after one write makes the copy fresh enough for a read."""
    return push < read and sequence[push + 1:read].count("write") <= sequence[read][1]


def needs_push(sequence, read):
    return sequence[:read].count("write") > sequence[read][1]


def draw_sequence(draw, length):
    return [draw.pick(["write", "write", ("read", draw.below(4))]) for _ in range(length)]


class FewestTest(unittest.TestCase):
    def test_against_all_choices(self):
        for seed in range(300):
            draw = Draw(seed)
            sequence = draw_sequence(draw, draw.below(12))
            pushes, reads = fewest_pushes(sequence)
            writes = writes_of(sequence)
            self.assertLessEqual(set(pushes), set(writes))
            self.assertEqual(costs(sequence, pushes), 0)
            for many in range(len(pushes)):
                for choice in itertools.combinations(writes, many):
                    self.assertGreater(costs(sequence, choice), 0)
            self.assertEqual(len(reads), len(pushes))
            for read in reads:
                self.assertTrue(needs_push(sequence, read))
            for one, other in itertools.combinations(reads, 2):
                self.assertFalse(any(serves_alone(sequence, one, push) and serves_alone(sequence, other, push)
                                     for push in writes))
            self.assertIs(check_pushes(sequence, (pushes, reads)), True)

    def test_check_pushes_against_all_pairs(self):
        """All pairs of tuples of indexes, for short sequences."""
        for seed in range(40):
            draw = Draw(seed)
            sequence = draw_sequence(draw, 1 + draw.below(6))
            writes = writes_of(sequence)
            least = len(fewest_pushes(sequence)[0])
            indexes = range(len(sequence))
            tuples = [choice for many in range(3) for choice in itertools.combinations(indexes, many)]
            for pushes, reads in itertools.product(tuples, repeat=2):
                good = len(pushes) == least == len(reads) and set(pushes) <= set(writes)
                good = good and not set(reads) & set(writes) and costs(sequence, pushes) == 0
                good = good and all(needs_push(sequence, read) for read in reads)
                good = good and not any(serves_alone(sequence, one, push) and serves_alone(sequence, other, push)
                                        for one, other in itertools.combinations(reads, 2) for push in writes)
                self.assertIs(check_pushes(sequence, (pushes, reads)), bool(good), (sequence, pushes, reads))

    def test_by_hand(self):
        self.assertEqual(fewest_pushes([]), ((), ()))
        self.assertEqual(fewest_pushes(["write"] * 5), ((), ()))
        self.assertEqual(fewest_pushes([("read", 0)]), ((), ()))
        self.assertEqual(fewest_pushes(["write", ("read", 1)]), ((), ()))
        self.assertEqual(fewest_pushes(["write", ("read", 0)]), ((0,), (1,)))
        self.assertEqual(fewest_pushes(("write", ("read", 0), "write", ("read", 0))), ((0, 2), (1, 3)))
        self.assertEqual(len(fewest_pushes(["write", "write", ("read", 1), ("read", 0)])[0]), 1)
        self.assertEqual(fewest_pushes(["write", ("read", 10**29)]), ((), ()))

    def test_check_pushes_with_one_index_changed(self):
        sequence = ["write", "write", ("read", 1), "write", ("read", 0), "write", ("read", 2), "write", ("read", 0)]
        pushes, reads = fewest_pushes(sequence)
        self.assertEqual((pushes, reads), ((1, 3, 7), (2, 4, 8)))
        self.assertTrue(check_pushes(sequence, (pushes, reads)))
        # Another choice that is as good.
        self.assertTrue(check_pushes(sequence, ((0, 3, 7), (2, 4, 8))))
        for bad in (
            ((1, 3), (2, 4)), ((1, 3), (2, 4, 8)), ((1, 3, 7), (2, 4)), ((1, 3, 5, 7), (2, 4, 8)),
            ((1, 3, 7), (2, 4, 6, 8)), ((1, 3, 5), (2, 4, 8)), ((1, 3, 7), (2, 4, 6)), ((3, 1, 7), (2, 4, 8)),
            ((1, 3, 7), (4, 2, 8)), ((1, 3, 3), (2, 4, 8)), ((1, 3, 7), (2, 4, 4)), ((2, 3, 7), (2, 4, 8)),
            ((1, 3, 7), (1, 4, 8)), ((1, 3, 9), (2, 4, 8)), ((1, 3, 7), (2, 4, 9)), ((-1, 3, 7), (2, 4, 8)),
            ((1, 3, 7), (-7, 4, 8)), ((2, 4, 8), (1, 3, 7)), ((1, 3, 7), (2, 4, 8), ()), ((1, 3, 7),), (),
            [(1, 3, 7), (2, 4, 8)], ([1, 3, 7], (2, 4, 8)), ((1, 3, 7), [2, 4, 8]), ((True, 3, 7), (2, 4, 8)),
            ((1.0, 3, 7), (2, 4, 8)), ((1, 3, "7"), (2, 4, 8)), ((1, 3, None), (2, 4, 8)), ((1, 3, [7]), (2, 4, 8)),
            (((1,), 3, 7), (2, 4, 8)), {0: (1, 3, 7), 1: (2, 4, 8)}, "ab", (None, None), (pushes, reads, None),
        ):
            self.assertIs(check_pushes(sequence, bad), False, bad)
        for odd in ODD:
            self.assertIs(check_pushes(sequence, odd), False)
            self.assertIs(check_pushes(sequence, (odd, odd)), False)
            self.assertIs(check_pushes(sequence, (pushes, (2, 4, odd))), False)
        self.assertIs(check_pushes([], ((), ())), True)
        # Both reads can be served by the first push.
        self.assertIs(check_pushes(["write", ("read", 0), "write", ("read", 1)], ((0, 2), (1, 3))), False)
        self.assertIs(check_pushes(["write", ("read", 0)], ((False,), (True,))), False)

    def test_sequences_that_are_none(self):
        bad = [odd for odd in ODD if not (isinstance(odd, (list, tuple)) and not odd)] + [
            ["Write"], ["write", "read"], [("read",)], [("read", 1, 2)], [["read", 1]], [("read", -1)], [("read", True)],
            [("read", 1.0)], [("read", "1")], [("read", None)], [("write", 1)], [("write",)], ["write", None],
            [(b"read", 1)], {"write": 1}, "write", {"write"}, [("Read", 1)], ["write"] * 1001, ("write",) * 1001,
            [(None, 1)], [([], 1)],
        ]
        for sequence in bad:
            for call in (lambda x: fewest_pushes(x), lambda x: check_pushes(x, None),
                         lambda x: run_policy(x, lambda at, age: 1 // 0)):
                check_raised(self, InvalidSequence, {"given": sequence}, call, sequence)

    def test_long_sequences(self):
        start = time.perf_counter()
        for length in (999, 1000):
            for seed in range(10):
                sequence = draw_sequence(Draw(seed), length)
                self.assertTrue(check_pushes(sequence, fewest_pushes(sequence)))
        self.assertTrue(check_pushes(("write",) * 1000, ((), ())))
        sequence = ["write", ("read", 0)] * 500
        self.assertEqual(len(fewest_pushes(sequence)[0]), 500)
        self.assertTrue(check_pushes(sequence, fewest_pushes(tuple(sequence))))
        self.assertLess(time.perf_counter() - start, 20)


class PolicyTest(unittest.TestCase):
    def test_policies(self):
        for seed in range(100):
            draw = Draw(seed)
            sequence = draw_sequence(draw, draw.below(40))
            writes = writes_of(sequence)
            self.assertEqual(run_policy(sequence, lambda at, age: True), (len(writes), 0))
            self.assertEqual(run_policy(sequence, lambda at, age: False), (0, costs(sequence, ())))
            pushes, _ = fewest_pushes(sequence)
            self.assertEqual(run_policy(tuple(sequence), lambda at, age: at in pushes), (len(pushes), 0))
            chosen = [at for at in writes if draw.below(3) == 0]
            self.assertEqual(run_policy(sequence, lambda at, age: at in chosen), (len(chosen), costs(sequence, chosen)))

    def test_what_a_policy_is_told(self):
        told = []

        def policy(at, age):
            told.append((at, age))
            return age == 3

        sequence = ["write", "write", ("read", 5), "write", "write", ("read", 0), "write", ("read", 1), ("read", 0)]
        self.assertEqual(run_policy(sequence, policy), (1, 2))
        self.assertEqual(told, [(0, 1), (1, 2), (3, 3), (4, 1), (6, 1)])

    def test_other_true_and_false_objects(self):
        self.assertEqual(run_policy(["write", ("read", 0)], lambda at, age: "yes"), (1, 0))
        self.assertEqual(run_policy(["write", ("read", 0)], lambda at, age: None), (0, 1))
        self.assertEqual(run_policy(["write", ("read", 0)], lambda at, age: []), (0, 1))

    def test_arguments(self):
        sequence = ["write", ("read", 0)]
        before = inner(sequence)
        self.assertEqual(fewest_pushes(sequence=sequence), ((0,), (1,)))
        self.assertTrue(check_pushes(obj=((0,), (1,)), sequence=sequence))
        self.assertEqual(run_policy(policy=lambda at, age: True, sequence=sequence), (1, 0))
        self.assertEqual(inner(sequence), before)
        with self.assertRaises(ZeroDivisionError):
            run_policy(sequence, lambda at, age: 1 // 0)


if __name__ == "__main__":
    unittest.main()
