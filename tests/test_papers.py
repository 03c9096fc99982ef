import copy
import functools
import itertools
import unittest

from lastloser.checker import let_by
from lastloser.errors import HeapError, NoPaper, TooMany, Wrong
from lastloser.pairs import pairs
from lastloser.papers import paper_holds, paper_of
from lastloser.reader import read

from samples import (EMPTY, EXACTLY_400, EXACTLY_401, NIM, STILL, all_sums, counted_table, nim_table, plain_thing,
                     single_losing, single_moves)

LASTS = ("loses", "wins")
ENDS = read("heap e :\nheap f :")
SMALL = read("row a to 2\ntake 1 none one\ntake 2 none")
ONE = (("a", ((0,),)),)
TURNS = ((1,), (0,))
RIGHT = ((NIM, (1, 2, 3)), (STILL, (0, 1, 2)), (SMALL, (1, 2)), (ENDS, (0, 0)), (EMPTY, ()), (ONE, (1,)))


@functools.lru_cache(maxsize=None)
def plain_put(table, x, counts):
    sums = all_sums(len(counts), 6)
    first = [other for other in sums if plain_thing(table, other) == x][0]
    return plain_thing(table, tuple(here + there for here, there in zip(first, counts)))


def plainly_right(game, last, table, paper, row):
    """Point 19, word by word, of one row."""
    steps, losing = table
    x, some, ended = row
    if ended:
        if (x in losing) != (last == "wins"):
            return False
    elif x not in losing and not set(some) & set(losing):
        return False
    for heap in range(len(game)):
        options = [plain_put(table, x, option) for option in game[heap][1]]
        if steps[x][heap] in losing and set(options) & set(losing):
            return False
        leads = {steps[thing][heap] for thing in some} | set(options)
        if not [1 for y, others, still in paper if y == steps[x][heap] and set(others) <= leads
                and still == (ended and not game[heap][1])]:
            return False
    return True


def plain_fault(game, last, table, paper):
    if not paper or paper[0] != (0, (), True):
        return 0
    for number, row in enumerate(paper):
        if not plainly_right(game, last, table, paper, row):
            return number
    return None


def all_rows(size):
    somes = [some for many in range(size + 1) for some in itertools.combinations(range(size), many)]
    rows = list(itertools.product(range(size), somes, (True, False)))
    rows.remove((0, (), True))
    return [(0, (), True)] + rows


class Papers(unittest.TestCase):
    def look_refused(self, game, last, table, paper, at):
        with self.subTest(paper), self.assertRaises(NoPaper) as caught:
            paper_holds(game, last, table, paper)
        self.assertEqual(caught.exception.at, at)
        self.assertIsInstance(caught.exception, HeapError)

    def look_plainly(self, game, last, table, paper):
        at = plain_fault(game, last, table, paper)
        if at is None:
            self.assertIs(paper_holds(game, last, table, paper), True)
        else:
            self.look_refused(game, last, table, paper, at)


class PaperHolds(Papers):
    def test_without_rows(self):
        for game, numbers in RIGHT:
            for last in LASTS:
                self.look_refused(game, last, nim_table(last, numbers=numbers), (), 0)

    def test_another_first_row(self):
        paper = paper_of(ONE, "wins", (TURNS, (0,)))
        for row in ((0, (), False), (0, (0,), True), (0, (1,), True), (1, (), True), (1, (0,), False), (1, (1,), True)):
            self.look_refused(ONE, "wins", (TURNS, (0,)), (row,) + paper, 0)
            self.look_refused(ONE, "wins", (TURNS, (0,)), (row,) + paper[1:], 0)
            self.look_refused(ONE, "wins", (TURNS, (0,)), (row,), 0)

    def test_a_game_without_heaps(self):
        for table in ((((),), ()), (((),), (0,))):
            for last in LASTS:
                right = (table[1] == (0,)) == (last == "wins")
                if right:
                    self.assertIs(paper_holds(EMPTY, last, table, ((0, (), True),)), True)
                else:
                    self.look_refused(EMPTY, last, table, ((0, (), True),), 0)
                self.look_refused(EMPTY, last, table, (), 0)
                self.look_refused(EMPTY, last, table, ((0, (), False),), 0)

    def test_heaps_without_options(self):
        paper = ((0, (), True),)
        self.assertIs(paper_holds(ENDS, "wins", (((0, 0),), (0,)), paper), True)
        self.assertIs(paper_holds(ENDS, "loses", (((0, 0),), ()), paper), True)
        self.look_refused(ENDS, "wins", (((0, 0),), ()), paper, 0)
        self.look_refused(ENDS, "loses", (((0, 0),), (0,)), paper, 0)
        steps = ((1, 0), (1, 1))
        self.look_refused(ENDS, "wins", (steps, (0, 1)), paper, 0)
        self.look_refused(ENDS, "wins", (steps, (0, 1)), paper + ((1, (), False),), 0)
        self.look_refused(ENDS, "wins", (steps, (0,)), paper + ((1, (), True),), 1)
        self.assertIs(paper_holds(ENDS, "wins", (steps, (0, 1)), paper + ((1, (), True),)), True)

    def test_written_by_hand(self):
        table = (TURNS, (0,))
        first = (0, (), True)
        self.assertIs(paper_holds(ONE, "wins", table, (first, (1, (0,), False), (0, (1,), False))), True)
        self.assertIs(paper_holds(ONE, "wins", table, (first, (1, (0,), False), (0, (), False))), True)
        self.assertIs(paper_holds(ONE, "wins", table, (first, (0, (), False), (1, (0,), False))), True)
        self.look_refused(ONE, "wins", table, (first, (1, (), False), (0, (), False)), 1)
        self.look_refused(ONE, "wins", table, (first, (1, (0,), True), (0, (), False)), 0)
        self.look_refused(ONE, "wins", table, (first, (1, (0,), False)), 1)
        self.look_refused(ONE, "wins", table, (first, (1, (0,), False), (0, (), True)), 1)
        self.look_refused(ONE, "wins", table, (first, (1, (0,), False), (0, (0,), False)), 1)
        self.look_refused(ONE, "wins", table, (first, (1, (0, 1), False), (0, (), False)), 0)
        self.look_refused(ONE, "wins", table, (first, (1, (1,), False), (0, (), False)), 0)
        self.look_refused(ONE, "wins", table, (first,), 0)

    def test_a_losing_thing_beside_a_losing_one(self):
        # Either may be losing, or both: that no move leads from a losing one to another is looked at elsewhere.
        table = (TURNS, (0,))
        paper = ((0, (), True), (1, (0,), False), (0, (1,), False), (0, (0, 1), False))
        self.assertIs(paper_holds(ONE, "wins", table, paper), True)

    def test_an_ended_row_beside_others(self):
        table = (TURNS, (0,))
        paper = ((0, (), True), (1, (0,), False), (0, (1,), False), (1, (0,), True))
        self.look_refused(ONE, "wins", table, paper, 3)
        paper = ((0, (), True), (1, (0,), False), (0, (1,), False), (0, (1,), True))
        self.assertIs(paper_holds(ONE, "wins", table, paper), True)

    def test_a_step_to_a_losing_thing_from_beside_one(self):
        game = (("a", ((0, 0),)), ("b", ((0, 0), (1, 0))))
        table = (((1, 0), (0, 1)), (0,))
        self.look_refused(game, "wins", table, ((0, (), True), (1, (0,), False), (0, (), False)), 0)
        table = (((0,),), (0,))
        self.look_refused(ONE, "wins", table, ((0, (), True), (0, (), False)), 0)

    def test_rows_left_out(self):
        for game, numbers in RIGHT:
            for last in LASTS:
                table = nim_table(last, numbers=numbers)
                paper = paper_of(game, last, table)
                for place in range(len(paper)):
                    self.look_plainly(game, last, table, paper[:place] + paper[place + 1:])

    def test_rows_otherwise(self):
        for game, numbers in ((NIM, (1, 2, 3)), (STILL, (0, 1, 2))):
            for last in LASTS:
                table = nim_table(last, numbers=numbers)
                paper = paper_of(game, last, table)
                for place, (thing, some, ended) in enumerate(paper):
                    for row in ((thing, some, not ended), (thing, (), ended), (thing, some[1:], ended),
                                (thing, some[:-1], ended), (thing, tuple(range(len(table[0]))), ended),
                                ((thing + 1) % len(table[0]), some, ended)):
                        self.look_plainly(game, last, table, paper[:place] + (row,) + paper[place + 1:])

    def test_rows_in_another_order(self):
        for game, numbers in RIGHT:
            for last in LASTS:
                table = nim_table(last, numbers=numbers)
                paper = paper_of(game, last, table)
                self.assertIs(paper_holds(game, last, table, paper[:1] + paper[:0:-1]), True)
                if len(paper) > 1:
                    self.look_refused(game, last, table, paper[::-1], 0)
                    self.look_refused(game, last, table, paper[1:] + paper[:1], 0)

    def test_more_rows(self):
        for last in LASTS:
            table = nim_table(last)
            paper = paper_of(NIM, last, table)
            self.assertIs(paper_holds(NIM, last, table, paper + paper), True)
            self.assertIs(paper_holds(NIM, last, table, paper[:1] + paper), True)
            for row in all_rows(4):
                self.look_plainly(NIM, last, table, paper + (row,))
                self.look_plainly(NIM, last, table, paper[:2] + (row,) + paper[2:])

    def test_the_first_row_that_is_not_right(self):
        table = nim_table("loses")
        paper = paper_of(NIM, "loses", table)
        wrong = (0, (), False)
        self.assertFalse(plainly_right(NIM, "loses", table, paper, wrong))
        for place in range(1, len(paper) + 1):
            self.look_refused(NIM, "loses", table, paper[:place] + (wrong,) + paper[place:] + (wrong,), place)

    def test_another_table_or_way_to_play(self):
        for game, numbers in RIGHT:
            for last, other in (LASTS, LASTS[::-1]):
                table = nim_table(last, numbers=numbers)
                self.look_plainly(game, other, table, paper_of(game, last, table))
                self.look_refused(game, other, table, paper_of(game, last, table), 0)
        table = nim_table("loses")
        paper = paper_of(NIM, "loses", table)
        for thing in range(len(table[0])):
            turned = (table[0], tuple(sorted(set(table[1]) ^ {thing})))
            self.assertIsNotNone(plain_fault(NIM, "loses", turned, paper))
            self.look_plainly(NIM, "loses", turned, paper)

    def greatest(self, game, last, table):
        """All rows, without those that are not right, till all are: if a paper is let by, this one is."""
        rows = all_rows(len(table[0]))
        while True:
            try:
                paper_holds(game, last, table, tuple(rows))
            except NoPaper as refusal:
                if refusal.at == 0:
                    return None
                rows.pop(refusal.at)
            else:
                return tuple(rows)

    def test_there_is_a_paper_just_where_the_table_is_let_by(self):
        one_or_two = read("heap a : .\nheap b : . | a")
        games = ((ONE, ((2, 1),)), (ONE, ((0, 3),)), (ONE, ((1, 2),)), (one_or_two, ((0, 2), (0, 1))),
                 (one_or_two, ((1, 1), (0, 1))), (one_or_two, ((0, 1), (1, 2))), (ENDS, ((1, 1), (0, 1))))
        found = []
        for game, bounds in games:
            steps = counted_table(bounds)[0]
            for many in range(len(steps) + 1):
                for losing in itertools.combinations(range(len(steps)), many):
                    for last in LASTS:
                        found.append(self.look_greatest(game, last, (steps, losing)))
        self.assertIn(True, found)
        self.assertIn(False, found)

    def look_greatest(self, game, last, table):
        paper = self.greatest(game, last, table)
        if paper is None:
            with self.assertRaises(Wrong):
                let_by(game, last, table)
        else:
            self.assertIs(let_by(game, last, table), True)
            self.assertIsNone(plain_fault(game, last, table, paper))
        return paper is None

    def test_by_name(self):
        table = (TURNS, (0,))
        paper = paper_of(ONE, "wins", table)
        before = copy.deepcopy((ONE, table, paper))
        self.assertIs(paper_holds(game=ONE, last="wins", table=table, paper=paper), True)
        self.assertEqual((ONE, table, paper), before)


class PaperOf(Papers):
    def test_a_row_for_each_pair(self):
        for game, numbers in RIGHT:
            for last in LASTS:
                table = nim_table(last, numbers=numbers)
                right = tuple((thing, leads, leads == ()) for counts, (thing, leads) in pairs(game, table))
                self.assertEqual(paper_of(game, last, table), right)
                self.assertEqual({type(row) for row in right}, {tuple})

    def test_small_ones(self):
        self.assertEqual(paper_of(EMPTY, "wins", (((),), (0,))), ((0, (), True),))
        self.assertEqual(paper_of(ONE, "wins", (TURNS, (0,))), ((0, (), True), (1, (0,), False), (0, (1,), False)))
        self.assertEqual(paper_of(game=ENDS, last="loses", table=(((1, 0), (1, 1)), ())),
                         ((0, (), True), (1, (), True)))

    def test_written_and_looked_at(self):
        for game, numbers in RIGHT:
            for last in LASTS:
                for turned in (False, True):
                    table = nim_table(last, turned, numbers)
                    self.assertIs(paper_holds(game, last, table, paper_of(game, last, table)), True)

    def test_as_many_rows_as_may_be(self):
        game, steps = single_moves(*EXACTLY_400)
        for last in LASTS:
            table = (steps, single_losing(steps, last))
            paper = paper_of(game, last, table)
            self.assertEqual(len(paper), 400)
            self.assertIs(paper_holds(game, last, table, paper), True)

    def test_refused(self):
        game, steps = single_moves(*EXACTLY_401)
        for last in LASTS:
            with self.assertRaises(TooMany):
                paper_of(game, last, (steps, single_losing(steps, last)))
        with self.assertRaises(Wrong) as caught:
            paper_of(ONE, "wins", (TURNS, (1,)))
        self.assertEqual(caught.exception.counts, (0,))
        with self.assertRaises(Wrong) as caught:
            paper_of(ONE, "wins", (((0,),), (0,)))
        self.assertEqual(caught.exception.counts, (1,))
        with self.assertRaises(Wrong) as caught:
            paper_of(game, "wins", (steps, single_losing(steps, "wins")[:-1]))
        with self.assertRaises(Wrong) as checked:
            let_by(game, "wins", (steps, single_losing(steps, "wins")[:-1]))
        self.assertEqual(caught.exception.counts, checked.exception.counts)


if __name__ == "__main__":
    unittest.main()
