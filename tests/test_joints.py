import copy
import itertools
import unittest

from lastloser.joints import joint, settled, unlike
from lastloser.made import made
from lastloser.sums import in_order

from samples import (GAMES, NIM, all_sums, counted_table, nim_table, plain_loser, plain_thing)

BOUNDS = (((0, 2), (1, 2)), ((2, 1), (0, 2)), ((1, 1), (1, 1)), ((0, 1), (0, 3)))
PAIRS = [(counted_table(one, losing), counted_table(other, others, turned))
         for one, other in itertools.product(BOUNDS, repeat=2)
         for losing, others, turned in ((((0, 0),), ((0, 0), (0, 1)), False), (((1, 0), (0, 1)), ((0, 0),), True),
                                        ((), ((0, 1),), False), (((1, 1),), ((1, 1),), True))]


def plain_joint(one, other, most):
    found = {}
    for counts in all_sums(len(one[0][0]), most):
        found.setdefault((plain_thing(one, counts), plain_thing(other, counts)), counts)
    return [(counts,) + both for both, counts in found.items()]


def is_unlike(one, other, counts):
    return (plain_thing(one, counts) in one[1]) != (plain_thing(other, counts) in other[1])


def plainly_settled(one, other, most):
    """Of each heap one more than the most of it in an unlike sum, None where this is the most there are."""
    heaps = len(one[0][0])
    found = [counts for counts in itertools.product(range(most + 1), repeat=heaps) if is_unlike(one, other, counts)]
    told = []
    for heap in range(heaps):
        highest = max([counts[heap] for counts in found], default=-1)
        told.append(None if highest > most - 6 else highest + 1)
    return told


class Joint(unittest.TestCase):
    def test_one_thing_each(self):
        self.assertEqual(joint((((),), ()), (((),), (0,))), [((), 0, 0)])
        self.assertEqual(unlike((((),), ()), (((),), (0,))), [((), 0, 0)])
        self.assertEqual(unlike((((),), (0,)), (((),), (0,))), [])
        self.assertEqual(joint((((0, 0),), ()), (((0, 0),), ())), [((0, 0), 0, 0)])
        self.assertEqual(unlike((((0, 0),), ()), (((0, 0),), ())), [])
        self.assertEqual(unlike((((0, 0),), (0,)), (((0, 0),), ())), [((0, 0), 0, 0)])

    def test_a_table_and_itself(self):
        for last in ("loses", "wins"):
            table = nim_table(last)
            self.assertEqual([told[1:] for told in joint(table, table)], [(x, x) for x in range(len(table[0]))])
            self.assertEqual(unlike(table, table), [])

    def test_both_ways_to_play(self):
        self.assertEqual(joint(nim_table("loses"), nim_table("wins")),
                         [((0, 0, 0), 0, 0), ((1, 0, 0), 1, 1), ((0, 1, 0), 2, 2), ((0, 0, 1), 3, 3),
                          ((0, 2, 0), 4, 0), ((0, 1, 1), 5, 1)])
        self.assertEqual(unlike(nim_table("loses"), nim_table("wins")), [((0, 0, 0), 0, 0), ((1, 0, 0), 1, 1)])
        self.assertEqual(unlike(nim_table("wins"), nim_table("loses")), [((0, 0, 0), 0, 0), ((1, 0, 0), 1, 1)])

    def test_by_every_sum(self):
        for one, other in PAIRS:
            with self.subTest(one=one, other=other):
                right = plain_joint(one, other, 9)
                self.assertEqual(joint(one, other), right)
                self.assertEqual(unlike(one, other), [told for told in right if is_unlike(one, other, told[0])])
                self.assertEqual([told[0] for told in right], in_order([told[0] for told in right]))

    def test_many_joint_things(self):
        one = tuple(((x + 1) % 19, x) for x in range(19))
        other = tuple(((x + 1) % 20, x) for x in range(20))
        told = joint((one, (0,)), (other, (0,)))
        self.assertEqual(told, [((many, 0), many % 19, many % 20) for many in range(380)])
        self.assertEqual(len(unlike((one, (0,)), (other, (0,)))), 18 + 19)

    def test_new_lists_and_names(self):
        one, other = nim_table("loses"), nim_table("wins")
        before = copy.deepcopy((one, other))
        for asked in (joint, unlike):
            told = asked(one=one, other=other)
            right = list(told)
            self.assertEqual({type(entry) for entry in told}, {tuple})
            told.clear()
            self.assertEqual(asked(one, other), right)
        self.assertEqual((one, other), before)


class Settled(unittest.TestCase):
    def test_one_thing_each(self):
        self.assertEqual(settled((((),), ()), (((),), (0,))), [])
        self.assertEqual(settled((((0, 0),), ()), (((0, 0),), ())), [0, 0])
        self.assertEqual(settled((((0, 0),), ()), (((0, 0),), (0,))), [None, None])

    def test_both_ways_to_play(self):
        self.assertEqual(settled(nim_table("loses"), nim_table("wins")), [None, 1, 1])
        self.assertEqual(settled(nim_table("wins"), nim_table("wins")), [0, 0, 0])

    def test_a_long_way(self):
        chain = tuple((min(x + 1, 19), x) for x in range(20))
        self.assertEqual(settled((chain, (3,)), (chain, ())), [4, None])
        self.assertEqual(settled((chain, (18,)), (chain, (18,))), [0, 0])
        self.assertEqual(settled((chain, (18,)), (chain, ())), [19, None])
        self.assertEqual(settled((chain, (19,)), (chain, ())), [None, None])
        self.assertEqual(settled((chain, (0, 5)), (chain, (0, 7))), [8, None])

    def test_round_about(self):
        one = tuple(((x + 1) % 4,) for x in range(4))
        self.assertEqual(settled((one, (0,)), (one, (1,))), [None])
        tail = tuple((x + 1 if x < 5 else 2,) for x in range(6))
        self.assertEqual(settled((tail, (0, 4)), (tail, (1, 4))), [2])
        self.assertEqual(settled((tail, (0, 4)), (tail, (1, 5))), [None])

    def test_by_every_sum(self):
        for one, other in PAIRS:
            with self.subTest(one=one, other=other):
                self.assertEqual(settled(one, other), plainly_settled(one, other, 14))
                self.assertEqual(settled(other, one), settled(one, other))

    def test_every_answer_is_there(self):
        told = [number for one, other in PAIRS for number in settled(one, other)]
        for number in (None, 0, 1, 2):
            self.assertIn(number, told)

    def test_by_plain_walks(self):
        for game in [game for game in GAMES if len(game) == 2] + [NIM]:
            told = settled(made(game, "loses", 12)[1], made(game, "wins", 12)[1])
            lost = [plain_loser(game, last) for last in ("loses", "wins")]
            apart = [counts for counts in itertools.product(range(6), repeat=len(game))
                     if lost[0](counts) != lost[1](counts)]
            for heap, number in enumerate(told):
                highest = max(counts[heap] for counts in apart)
                self.assertEqual(number, None if highest >= 4 else highest + 1)

    def test_new_lists_and_names(self):
        one, other = nim_table("loses"), nim_table("wins")
        before = copy.deepcopy((one, other))
        told = settled(other=other, one=one)
        told.clear()
        self.assertEqual(settled(one, other), [None, 1, 1])
        self.assertEqual((one, other), before)


if __name__ == "__main__":
    unittest.main()
