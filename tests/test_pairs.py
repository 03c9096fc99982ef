import copy
import unittest

from lastloser.errors import HeapError, TooMany
from lastloser.games import look_game
from lastloser.pairs import pairs
from lastloser.reader import read
from lastloser.sums import in_order
from lastloser.tables import look_table

from samples import (EMPTY, EXACTLY_400, EXACTLY_401, NIM, STILL, all_sums, counted_table, nim_table, plain_pair,
                     plain_pairs, single_moves)

DAWSON = read("row a to 5\ntake 1 none\ntake 2 none one two")
ONE = (((0, 0, 0),), ())
CASES = (
    (NIM, nim_table("loses"), 6),
    (NIM, nim_table("wins"), 6),
    (NIM, nim_table("loses", turned=True), 6),
    (NIM, ONE, 6),
    (STILL, ONE, 6),
    (STILL, counted_table(((1, 2), (0, 2), (0, 1))), 8),
    (STILL, counted_table(((0, 3), (1, 1), (1, 1)), turned=True), 8),
    (STILL, counted_table(((0, 2), (1, 2), (0, 2)), turned=True), 8),
    (DAWSON, counted_table(((0, 2), (0, 2), (0, 2), (0, 1), (0, 1))), 8),
)


class Pairs(unittest.TestCase):
    def test_without_heaps(self):
        self.assertEqual(pairs(EMPTY, (((),), ())), [((), (0, ()))])
        self.assertEqual(pairs(EMPTY, (((),), (0,))), [((), (0, ()))])

    def test_one_heap(self):
        game = (("a", ((0,),)),)
        self.assertEqual(pairs(game, (((1,), (0,)), (0,))), [((0,), (0, ())), ((1,), (1, (0,))), ((2,), (0, (1,)))])
        self.assertEqual(pairs(game=game, table=(((0,),), ())), [((0,), (0, ())), ((1,), (0, (0,)))])

    def test_a_heap_without_options(self):
        game = (("e", ()),)
        self.assertEqual(pairs(game, (((1,), (2,), (1,)), ())), [((0,), (0, ())), ((1,), (1, ())), ((2,), (2, ()))])

    def test_told_in_order(self):
        told = pairs(NIM, nim_table("loses"))
        self.assertEqual(told[:5], [((0, 0, 0), (0, ())), ((1, 0, 0), (1, (0,))), ((0, 1, 0), (2, (0, 1))),
                                    ((0, 0, 1), (3, (0, 1, 2))), ((2, 0, 0), (0, (1,)))])
        self.assertEqual([counts for counts, pair in told], in_order([counts for counts, pair in told]))

    def test_by_every_sum(self):
        for game, table, most in CASES:
            with self.subTest(game=game, table=table):
                self.assertIs(look_table(table), True)
                told = pairs(game, table)
                self.assertLess(max(sum(counts) for counts, pair in told), most)
                self.assertEqual(told, plain_pairs(game, table, most))

    def test_each_pair_once(self):
        for game, table, most in CASES:
            told = [pair for counts, pair in pairs(game, table)]
            self.assertEqual(len(told), len(set(told)))

    def test_leads_rise(self):
        for game, table, most in CASES:
            for counts, (thing, leads) in pairs(game, table):
                self.assertIs(type(leads), tuple)
                self.assertEqual(list(leads), sorted(set(leads)))

    def test_losing_things_change_nothing(self):
        steps = nim_table("loses")[0]
        self.assertEqual(pairs(NIM, (steps, ())), pairs(NIM, nim_table("loses")))

    def test_exactly_400(self):
        game, steps = single_moves(*EXACTLY_400)
        self.assertIs(look_game(game), True)
        self.assertIs(look_table((steps, ())), True)
        told = pairs(game, (steps, ()))
        self.assertEqual(len(told), 400)
        self.assertEqual(len({pair for counts, pair in told}), 400)
        self.assertEqual([counts for counts, pair in told], in_order([counts for counts, pair in told]))
        for counts, pair in told:
            self.assertEqual(plain_pair(game, (steps, ()), counts), pair)
        near = [entry for entry in told if sum(entry[0]) <= 5]
        self.assertEqual(near, plain_pairs(game, (steps, ()), 5))

    def test_one_more_than_400(self):
        game, steps = single_moves(*EXACTLY_401)
        self.assertIs(look_game(game), True)
        self.assertIs(look_table((steps, ())), True)
        self.assertEqual(self.how_many(game, steps), 401)
        with self.assertRaises(TooMany) as caught:
            pairs(game, (steps, ()))
        self.assertIsInstance(caught.exception, HeapError)

    def how_many(self, game, steps):
        found = {(0, ()): (0,) * len(game)}
        waiting = list(found)
        for pair in waiting:
            for heap in range(len(game)):
                counts = list(found[pair])
                counts[heap] += 1
                later = plain_pair(game, (steps, ()), tuple(counts))
                if later not in found:
                    found[later] = tuple(counts)
                    waiting.append(later)
        return len(found)

    def test_far_more_than_400(self):
        game, steps = single_moves(0, 10, tuple((0, (many,)) for many in range(5)))
        self.assertEqual(self.how_many(game, steps), 630)
        with self.assertRaises(TooMany):
            pairs(game, (steps, ()))
        many = 401
        chain = tuple((min(x + 1, many - 1),) for x in range(many))
        with self.assertRaises(TooMany):
            pairs((("e", ()),), (chain, ()))
        self.assertEqual(len(pairs((("e", ()),), (chain[:399] + ((399,),), ()))), 400)

    def test_first_sums_of_unlike_heaps(self):
        game = (("a", ()), ("b", ()), ("c", ()))
        told = pairs(game, counted_table(((0, 2), (1, 1), (2, 1))))
        right = [counts for counts in all_sums(3, 9) if counts[0] < 2 and counts[1] < 2 and counts[2] < 3]
        self.assertEqual([counts for counts, pair in told], right)

    def test_told_lists_are_new_ones(self):
        told = pairs(NIM, ONE)
        right = list(told)
        told.clear()
        self.assertEqual(pairs(NIM, ONE), right)

    def test_nothing_handed_in_is_changed(self):
        for game, table, most in CASES:
            before = copy.deepcopy((game, table))
            pairs(game, table)
            self.assertEqual((game, table), before)


if __name__ == "__main__":
    unittest.main()
