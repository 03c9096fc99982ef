"""Point 3: what is promised over the whole program, held against plain walks of small sums."""

import itertools
import unittest

from lastloser.checker import let_by
from lastloser.errors import NoPick, Wrong
from lastloser.firsts import firsts
from lastloser.joining import joined
from lastloser.joints import joint, settled, unlike
from lastloser.leading import led
from lastloser.least import least
from lastloser.made import made
from lastloser.numbers import number_table
from lastloser.papers import paper_holds, paper_of
from lastloser.parting import parting
from lastloser.picking import picked, picked_table
from lastloser.playing import winning
from lastloser.sums import moves
from lastloser.tables import look_table
from lastloser.things import thing_of

from samples import (ENDLESS, FOURTEEN, GAMES, LASTS, NIM, STILL, TWELVE, all_sums, finer, plain_loser, plain_thing,
                     plainly_holds, together)

SOME = GAMES[:40:3] + GAMES[40::9] + [NIM, STILL, TWELVE, FOURTEEN]
MOST = 14


def finer_ones(table):
    if table[0][0]:
        for tail, period, counted in ((0, 2, 0), (1, 1, len(table[0][0]) - 1), (2, 3, 0)):
            for turned in (False, True):
                yield finer(table, tail, period, counted, turned)


class Whole(unittest.TestCase):
    def each(self):
        for game in SOME:
            for last in LASTS:
                told = made(game, last, MOST)
                self.assertEqual(told[0], "table")
                yield game, last, told[1]

    def tells(self, table, game, last, most):
        lost = plain_loser(game, last)
        return all((plain_thing(table, counts) in table[1]) == lost(counts) for counts in all_sums(len(game), most))

    def test_a_table_is_let_by_just_where_it_tells_who_wins(self):
        for game, last, table in self.each():
            with self.subTest(game=game, last=last):
                self.assertIs(let_by(game, last, table), True)
                self.assertTrue(self.tells(table, game, last, 4))
                for other in finer_ones(table):
                    self.assertIs(let_by(game, last, other), True)
                    self.assertTrue(self.tells(other, game, last, 3))

    def test_else_told_is_the_first_sum_at_which_it_does_not_hold(self):
        for game, last, table in self.each():
            for thing in range(len(table[0])):
                wrong = (table[0], tuple(sorted(set(table[1]) ^ {thing})))
                self.assertFalse(self.tells(wrong, game, last, 4))
                with self.assertRaises(Wrong) as caught:
                    let_by(game, last, wrong)
                first = [counts for counts in all_sums(len(game), sum(caught.exception.counts))
                         if not plainly_holds(game, wrong, counts, last)][0]
                self.assertEqual(caught.exception.counts, first)

    def test_a_winning_move_from_each_sum_that_has_one(self):
        for game, last, table in self.each():
            lost = plain_loser(game, last)
            for counts in all_sums(len(game), 3):
                told = winning(game, table, counts)
                good = [(h, k) for h, k, later in moves(game, counts) if lost(later)]
                self.assertEqual(told, good[0] if good else None)

    def test_papers(self):
        for game, last, table in self.each():
            for other in itertools.chain([table], finer_ones(table)):
                paper = paper_of(game, last, other)
                self.assertIs(paper_holds(game, last, other, paper), True)
                self.assertIs(paper_holds(game, last, other, paper[:1] + paper[:0:-1]), True)

    def test_each_table_that_tells_leads_onto_the_least(self):
        for game, last, table in self.each():
            for other in finer_ones(table):
                self.assertIs(look_table(other), True)
                self.assertGreaterEqual(len(other[0]), len(table[0]))
                self.assertEqual(least(other), table)
                goes = led(other, table)
                for counts in all_sums(len(game), 3):
                    self.assertEqual(goes[thing_of(other, counts)], thing_of(table, counts))
                if len(other[0]) > len(table[0]):
                    self.assertIsNone(led(table, other))

    def test_sums_of_one_thing_are_those_that_none_parts(self):
        for game, last, table in self.each():
            lost = plain_loser(game, last)
            small = all_sums(len(game), 2)
            thirds = all_sums(len(game), 3)
            for one, other in itertools.combinations(small, 2):
                found = [third for third in thirds if lost(together(one, third)) != lost(together(other, third))]
                x, y = thing_of(table, one), thing_of(table, other)
                self.assertEqual(x == y, not found)
                self.assertEqual(parting(table, x, y), found[0] if found else None)

    def test_made_tells_no_more_things_than_are_asked_for(self):
        for game, last, table in self.each():
            for most in (len(table[0]) - 1, len(table[0])):
                if most > 0:
                    told = made(game, last, most)
                    self.assertEqual(told[0], "open" if most < len(table[0]) else "table")
        self.assertEqual(made(ENDLESS, "loses", MOST)[0], "open")

    def test_where_the_last_move_wins(self):
        for game, last, table in self.each():
            if last == "wins":
                self.assertEqual(number_table(game), table)

    def test_some_of_the_heaps(self):
        refused = 0
        for game, last, table in self.each():
            for many in range(len(game) + 1):
                for some in itertools.combinations(range(len(game)), many):
                    try:
                        part = picked(game, some)
                    except NoPick:
                        refused += 1
                    else:
                        self.look_led(part, last, picked_table(table, some))
        self.assertGreater(refused, 50)

    def look_led(self, game, last, table):
        right = made(game, last, MOST)[1]
        self.assertIs(look_table(table), True)
        self.assertIs(let_by(game, last, table), True)
        self.assertEqual(least(table), right)
        goes = led(table, right)
        self.assertIsNotNone(goes)
        self.assertEqual(sorted(set(goes)), list(range(len(right[0]))))

    def test_two_games_put_together(self):
        for one, other in itertools.product(SOME[1::3], SOME[2::4]):
            other = tuple(("z" + name, options) for name, options in other)
            both = joined(one, other)
            ahead, behind = tuple(range(len(one))), tuple(range(len(one), len(both)))
            for last in LASTS:
                told = made(both, last, 12)
                if told[0] == "table":
                    self.look_led(one, last, picked_table(told[1], ahead))
                    self.look_led(other, last, picked_table(told[1], behind))

    def test_a_game_of_which_no_table_tells_beside_others(self):
        both = joined(ENDLESS, STILL)
        self.assertEqual(made(both, "loses", 12)[0], "open")
        self.assertEqual(made(both, "wins", 12), ("table", number_table(both)))

    def test_both_ways_to_play(self):
        for game in SOME:
            one, other = [made(game, last, MOST)[1] for last in LASTS]
            lost = [plain_loser(game, last) for last in LASTS]
            told = joint(one, other)
            first = {}
            for counts in all_sums(len(game), 4):
                first.setdefault((thing_of(one, counts), thing_of(other, counts)), counts)
            self.assertEqual(told, [(counts,) + both for both, counts in first.items()])
            self.assertEqual(unlike(one, other),
                             [(counts, x, y) for counts, x, y in told if lost[0](counts) != lost[1](counts)])
            self.look_settled(game, settled(one, other), lost)

    def look_settled(self, game, told, lost):
        for heap, number in enumerate(told):
            highest = -1
            for counts in all_sums(len(game), 3):
                for more in range(5):
                    here = counts[:heap] + (counts[heap] + more,) + counts[heap + 1:]
                    if lost[0](here) != lost[1](here):
                        highest = max(highest, here[heap])
            self.assertEqual(number, None if highest >= 4 else highest + 1)

    def test_first_sums_are_of_unlike_things(self):
        for game, last, table in self.each():
            lost = plain_loser(game, last)
            sums = firsts(table)
            self.assertEqual(sums, sorted(sums, key=lambda counts: (sum(counts), [-many for many in counts])))
            for i, j in itertools.combinations(range(len(sums)), 2):
                third = parting(table, i, j)
                self.assertNotEqual(lost(together(sums[i], third)), lost(together(sums[j], third)))


if __name__ == "__main__":
    unittest.main()
