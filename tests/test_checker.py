import copy
import itertools
import unittest

from lastloser.checker import let_by
from lastloser.errors import HeapError, TooMany, Wrong
from lastloser.games import look_game
from lastloser.pairs import pairs
from lastloser.reader import read
from lastloser.tables import look_table
from lastloser.things import thing_of
from lastloser.walks import loses

from samples import (EMPTY, EXACTLY_400, EXACTLY_401, NIM, STILL, all_sums, counted_table, nim_table, plain_pair,
                     plainly_holds, single_losing, single_moves)

LASTS = ("loses", "wins")
ENDS = read("heap e :\nheap f :")
SMALL = read("row a to 2\ntake 1 none one\ntake 2 none")
# The game, and the numbers of heaps of nim to which its heaps come.
RIGHT = ((NIM, (1, 2, 3)), (STILL, (0, 1, 2)), (SMALL, (1, 2)), (ENDS, (0, 0)), (EMPTY, ()))
# Of single_moves: the pair of the first wrong sum is, by place from 0, the one told.
AT_399 = (
    ("wins", (9, 1, ((0, (0, 4)), (0, (1,)), (0, (2,)), (0, (3,)), (2, (3,)), (2, (0, 3)), (0, (4,)), (2, (1, 2)))), 9),
    ("loses", (7, 3, ((0, (4,)), (1, (3,)), (1, (1,)), (0, (0, 3)), (1, (0,)), (1, (2,)))), 19),
)
AT_400 = (
    ("wins", (5, 5, ((0, (1,)), (0, (2,)), (1, (0,)), (0, (2,)), (0, (1, 4)), (0, (3,)), (1, (1,)))), 9),
    ("loses", (8, 2, ((0, (4,)), (0, (3,)), (2, (0,)), (0, (3,)), (1, (1,)), (0, (2,)), (1, (0,)), (0, (4,)))), 19),
)


def turned_about(losing, thing):
    return tuple(sorted(set(losing) ^ {thing}))


def first_wrong(game, last, table, most):
    for counts in all_sums(len(game), most):
        if not plainly_holds(game, table, counts, last):
            return counts
    return None


class LetBy(unittest.TestCase):
    def look_wrong(self, game, last, table, counts):
        with self.assertRaises(Wrong) as caught:
            let_by(game, last, table)
        self.assertEqual(caught.exception.counts, counts)
        self.assertIs(type(caught.exception.counts), tuple)
        self.assertIsInstance(caught.exception, HeapError)

    def look_plainly(self, game, last, table, most):
        wrong = first_wrong(game, last, table, most)
        if wrong is None:
            self.assertIs(let_by(game, last, table), True)
        else:
            self.look_wrong(game, last, table, wrong)

    def test_tables_that_tell_who_wins(self):
        for game, numbers in RIGHT:
            for last in LASTS:
                for turned in (False, True):
                    with self.subTest(game=game, last=last, turned=turned):
                        self.assertIs(let_by(game, last, nim_table(last, turned, numbers)), True)

    def test_they_do_tell_who_wins(self):
        for game, numbers in RIGHT:
            for last in LASTS:
                table = nim_table(last, numbers=numbers)
                for counts in all_sums(len(game), 4):
                    self.assertEqual(thing_of(table, counts) in table[1], loses(game, counts, last))

    def test_a_finer_table(self):
        self.assertIs(let_by(SMALL, "loses", counted_table(((0, 2), (1, 2)), ((1, 0), (0, 2)))), True)
        self.assertIs(let_by(SMALL, "wins", counted_table(((0, 2), (0, 2)), ((0, 0),))), True)
        self.assertIs(let_by(SMALL, "loses", counted_table(((0, 2), (3, 2)), ((1, 0), (0, 2), (0, 4)))), True)

    def test_one_losing_thing_turned(self):
        for game, numbers in RIGHT:
            for last in LASTS:
                for turned in (False, True):
                    steps, losing = nim_table(last, turned, numbers)
                    for thing in range(len(steps)):
                        with self.subTest(game=game, last=last, thing=thing):
                            table = (steps, turned_about(losing, thing))
                            wrong = first_wrong(game, last, table, 6)
                            self.assertIsNotNone(wrong)
                            self.look_wrong(game, last, table, wrong)

    def test_the_other_way_to_play(self):
        for game, numbers in RIGHT:
            for last, other in (LASTS, LASTS[::-1]):
                self.look_wrong(game, other, nim_table(last, numbers=numbers), (0,) * len(game))

    def test_wrong_without_heaps(self):
        self.look_wrong(EMPTY, "wins", (((),), ()), ())
        self.look_wrong(EMPTY, "loses", (((),), (0,)), ())
        self.assertIs(let_by(EMPTY, "wins", (((),), (0,))), True)
        self.assertIs(let_by(EMPTY, "loses", (((),), ())), True)

    def test_heaps_without_options(self):
        self.assertIs(let_by(ENDS, "wins", (((0, 0),), (0,))), True)
        self.assertIs(let_by(ENDS, "loses", (((0, 0),), ())), True)
        steps = counted_table(((2, 1), (0, 2)))[0]
        self.assertIs(let_by(ENDS, "wins", (steps, tuple(range(6)))), True)
        self.assertIs(let_by(ENDS, "loses", (steps, ())), True)
        self.look_wrong(ENDS, "loses", counted_table(((2, 1), (0, 2)), ((2, 1),)), (2, 1))
        self.look_wrong(ENDS, "loses", counted_table(((2, 1), (0, 2)), ((2, 1), (1, 1), (2, 0))), (2, 0))
        self.look_wrong(ENDS, "loses", counted_table(((2, 1), (0, 2)), ((2, 1), (1, 1))), (1, 1))

    def test_tables_of_one_thing(self):
        one = (("a", ((0,),)),)
        self.look_wrong(one, "wins", (((0,),), (0,)), (1,))
        self.look_wrong(one, "wins", (((0,),), ()), (0,))
        self.look_wrong(one, "loses", (((0,),), ()), (1,))
        self.look_wrong(one, "loses", (((0,),), (0,)), (0,))

    def test_every_choice_of_losing_things(self):
        for game, bounds in ((SMALL, ((0, 2), (1, 2))), (SMALL, ((1, 1), (0, 2))), (ENDS, ((0, 2), (1, 1))),
                             (STILL, ((0, 1), (0, 2), (1, 2)))):
            steps = counted_table(bounds)[0]
            for many in range(len(steps) + 1):
                for losing in itertools.combinations(range(len(steps)), many):
                    for last in LASTS:
                        self.look_plainly(game, last, (steps, losing), 5)

    def test_a_wrong_sum_of_many_heaps(self):
        game = (("e", ()), ("a", ((0, 0),)))
        bounds = ((19, 1), (0, 1))
        steps = counted_table(bounds)[0]
        self.look_wrong(game, "loses", (steps, ()), (0, 1))
        self.assertIs(let_by(game[:1], "loses", (tuple(row[:1] for row in steps), ())), True)
        self.look_wrong(game[:1], "loses", (tuple(row[:1] for row in steps), (19,)), (19,))

    def test_exactly_400_pairs(self):
        game, steps = single_moves(*EXACTLY_400)
        self.assertEqual(len(pairs(game, (steps, ()))), 400)
        for last in LASTS:
            losing = single_losing(steps, last)
            self.assertIs(let_by(game, last, (steps, losing)), True)
            for thing in range(len(steps)):
                table = (steps, turned_about(losing, thing))
                wrong = [counts for counts, pair in pairs(game, table)
                         if not plainly_holds(game, table, counts, last)]
                self.look_wrong(game, last, table, wrong[0])

    def test_one_pair_more_than_400(self):
        game, steps = single_moves(*EXACTLY_401)
        for last in LASTS:
            losing = single_losing(steps, last)
            with self.assertRaises(TooMany):
                let_by(game, last, (steps, losing))
            self.look_wrong(game, last, (steps, turned_about(losing, 0)), (0,) * len(game))
            for thing in range(len(steps)):
                table = (steps, turned_about(losing, thing))
                self.look_wrong(game, last, table, first_wrong(game, last, table, 5))

    def far_wrong(self, game, last, table):
        """The pairs up to the first wrong one, each with a first sum, by this test's own walk."""
        found = {(0, ()): (0,) * len(game)}
        waiting = list(found)
        for pair in waiting:
            if not plainly_holds(game, table, found[pair], last):
                return len(waiting[:waiting.index(pair)]), found[pair]
            for heap in range(len(game)):
                counts = found[pair][:heap] + (found[pair][heap] + 1,) + found[pair][heap + 1:]
                later = plain_pair(game, table, counts)
                if later not in found:
                    found[later] = counts
                    waiting.append(later)
        return None

    def test_wrong_at_the_last_pair_that_is_looked_at(self):
        for last, case, thing in AT_399:
            game, steps = single_moves(*case)
            self.assertTrue(look_game(game) and look_table((steps, ())))
            table = (steps, turned_about(single_losing(steps, last), thing))
            at, wrong = self.far_wrong(game, last, table)
            self.assertEqual(at, 399)
            self.look_wrong(game, last, table, wrong)

    def test_wrong_behind_the_last_pair_that_is_looked_at(self):
        for last, case, thing in AT_400:
            game, steps = single_moves(*case)
            self.assertTrue(look_game(game) and look_table((steps, ())))
            table = (steps, turned_about(single_losing(steps, last), thing))
            at, wrong = self.far_wrong(game, last, table)
            self.assertEqual(at, 400)
            with self.assertRaises(TooMany):
                let_by(game, last, table)

    def test_chains_of_pairs(self):
        game = (("e", ()),)
        for size, wrong in ((401, 399), (450, 399), (400, 399), (401, 0)):
            chain = tuple((min(x + 1, size - 1),) for x in range(size))
            self.look_wrong(game, "loses", (chain, (wrong,)), (wrong,))
        for size, wrong in ((401, 400), (450, 449)):
            chain = tuple((min(x + 1, size - 1),) for x in range(size))
            with self.assertRaises(TooMany):
                let_by(game, "loses", (chain, (wrong,)))

    def test_by_name_and_again(self):
        table = nim_table("loses")
        before = copy.deepcopy((NIM, table))
        for again in range(2):
            self.assertIs(let_by(game=NIM, last="loses", table=table), True)
            self.look_wrong(NIM, "wins", table, (0, 0, 0))
        self.assertEqual((NIM, table), before)


if __name__ == "__main__":
    unittest.main()
