import copy
import itertools
import unittest

from lastloser.checker import let_by
from lastloser.errors import HeapError, NoPick
from lastloser.firsts import firsts
from lastloser.games import look_game
from lastloser.picking import picked, picked_table
from lastloser.reader import read
from lastloser.sums import in_order
from lastloser.tables import look_table
from lastloser.writer import shown

from samples import EMPTY, GAMES, LASTS, NIM, STILL, all_sums, counted_table, nim_table, plain_loser, plain_thing

MIXED = read("heap a : .\nheap e :\nheap b : . | a\nheap c : . | 2*a | a e | 2*e\nheap d : a | b | a b | 2*b")


def picks(heaps):
    return [some for many in range(heaps + 1) for some in itertools.combinations(range(heaps), many)]


def first_not_picked(game, some):
    for heap in some:
        for option in game[heap][1]:
            if any(many and other not in some for other, many in enumerate(option)):
                return heap
    return None


def widened(counts, some, heaps):
    told = [0] * heaps
    for many, heap in zip(counts, some):
        told[heap] = many
    return tuple(told)


class Picked(unittest.TestCase):
    def look_refused(self, game, some, heap):
        with self.assertRaises(NoPick) as caught:
            picked(game, some)
        self.assertEqual(caught.exception.heap, heap)
        self.assertIsInstance(caught.exception, HeapError)

    def test_none_picked(self):
        for game in (EMPTY, NIM, STILL, MIXED):
            self.assertEqual(picked(game, ()), ())

    def test_all_picked(self):
        for game in GAMES + [MIXED]:
            self.assertEqual(picked(game, tuple(range(len(game)))), game)

    def test_some_picked(self):
        self.assertEqual(picked(NIM, (0,)), (("a1", ((0,),)),))
        self.assertEqual(picked(NIM, (0, 1)), NIM[:0] + (("a1", ((0, 0),)), ("a2", ((0, 0), (1, 0)))))
        self.assertEqual(picked(MIXED, (1,)), (("e", ()),))
        self.assertEqual(shown(picked(MIXED, (0, 2, 4))), "heap a : .\nheap b : . | a\nheap d : a | b | a b | 2*b")
        self.assertEqual(shown(picked(MIXED, (0, 1, 3))), "heap a : .\nheap e :\nheap c : . | 2*a | a e | 2*e")

    def test_refused(self):
        self.look_refused(NIM, (1,), 1)
        self.look_refused(NIM, (2,), 2)
        self.look_refused(NIM, (1, 2), 1)
        self.look_refused(NIM, (0, 2), 2)
        self.look_refused(MIXED, (0, 3), 3)
        self.look_refused(MIXED, (0, 1, 4), 4)
        self.look_refused(MIXED, (1, 2, 3, 4), 2)
        self.look_refused(MIXED, (0, 3, 4), 3)

    def test_every_pick(self):
        for game in GAMES + [MIXED]:
            for some in picks(len(game)):
                first = first_not_picked(game, some)
                with self.subTest(game=game, some=some):
                    if first is not None:
                        self.look_refused(game, some, first)
                    else:
                        told = picked(game, some)
                        self.assertIs(look_game(told), True)
                        self.assertEqual([heap[0] for heap in told], [game[heap][0] for heap in some])
                        for heap, (name, options) in zip(some, told):
                            wide = tuple(widened(option, some, len(game)) for option in options)
                            self.assertEqual(wide, game[heap][1])

    def test_by_name(self):
        before = copy.deepcopy(MIXED)
        self.assertEqual(picked(some=(0, 2), game=MIXED), (("a", ((0, 0),)), ("b", ((0, 0), (1, 0)))))
        self.assertEqual(MIXED, before)


class PickedTable(unittest.TestCase):
    def test_none_picked(self):
        for last in LASTS:
            table = nim_table(last, turned=True)
            self.assertEqual(picked_table(table, ()), (((),), (0,) if last == "wins" else ()))
        self.assertEqual(picked_table((((),), (0,)), ()), (((),), (0,)))

    def test_all_picked(self):
        for last in LASTS:
            for turned in (False, True):
                self.assertEqual(picked_table(nim_table(last, turned), (0, 1, 2)), nim_table(last))

    def test_things_no_longer_reached(self):
        table = nim_table("loses")
        self.assertEqual(picked_table(table, (0,)), (((1,), (0,)), (1,)))
        self.assertEqual(picked_table(table, (1,)), (((1,), (2,), (1,)), (2,)))
        self.assertEqual(picked_table(nim_table("wins"), (2,)), (((1,), (0,)), (0,)))

    def test_numbered_by_first_sums_of_these_alone(self):
        table = (((1, 3), (2, 0), (3, 1), (0, 2)), (3,))
        self.assertEqual(picked_table(table, (0,)), (((1,), (2,), (3,), (0,)), (3,)))
        self.assertEqual(picked_table(table, (1,)), (((1,), (2,), (3,), (0,)), (1,)))
        table = counted_table(((2, 3), (0, 2), (1, 1)), ((1, 1, 0), (4, 0, 1)), turned=True)
        for some in picks(3):
            told = picked_table(table, some)
            self.assertEqual(firsts(told), in_order(firsts(told)))

    def test_of_each_sum(self):
        tables = [nim_table("loses", turned=True), nim_table("wins"),
                  counted_table(((2, 3), (0, 2), (1, 1)), ((1, 1, 0), (4, 0, 1)), turned=True),
                  counted_table(((0, 2), (1, 1), (2, 2)), ((1, 1, 2), (0, 0, 1), (1, 0, 0)))]
        for table in tables:
            for some in picks(3):
                told = picked_table(table, some)
                self.assertIs(look_table(told), True)
                goes = {}
                for counts in all_sums(len(some), 7):
                    old = plain_thing(table, widened(counts, some, 3))
                    new = plain_thing(told, counts)
                    self.assertEqual(goes.setdefault(new, old), old)
                    self.assertEqual(new in told[1], old in table[1])
                self.assertEqual(len(goes), len(told[0]))
                self.assertEqual(len(set(goes.values())), len(goes))

    def test_let_by_for_the_picked_game(self):
        for last in LASTS:
            for table in (nim_table(last), nim_table(last, turned=True)):
                for some in ((), (0,), (0, 1), (0, 1, 2)):
                    game = picked(NIM, some)
                    self.assertIs(let_by(game, last, picked_table(table, some)), True)
                    loses = plain_loser(game, last)
                    for counts in all_sums(len(some), 4):
                        told = picked_table(table, some)
                        self.assertEqual(plain_thing(told, counts) in told[1], loses(counts))

    def test_by_name_and_again(self):
        table = nim_table("loses")
        before = copy.deepcopy(table)
        told = picked_table(some=(0, 2), table=table)
        self.assertEqual(picked_table(nim_table("wins"), (1, 2)), picked_table(nim_table("wins"), (0, 2)))
        self.assertEqual(picked_table(table, (0, 2)), told)
        self.assertEqual(table, before)


if __name__ == "__main__":
    unittest.main()
