import copy
import itertools
import unittest

from lastloser.checker import let_by
from lastloser.errors import TooMany
from lastloser.games import look_game
from lastloser.leading import led
from lastloser.least import least
from lastloser.made import made
from lastloser.reader import read
from lastloser.tables import look_table
from lastloser.walks import loses

from samples import (EMPTY, ENDLESS, FOURTEEN, GAMES, LASTS, MANY_PAIRS, NIM, STILL, TWELVE, all_sums, counted_table,
                     nim_table, plain_loser, plain_thing, some_games, together)

ENDS = read("heap e :\nheap f :")


def is_one_more(counts, other):
    return all(0 <= here - there for here, there in zip(counts, other)) and sum(counts) == sum(other) + 1


class Made(unittest.TestCase):
    def look_table_told(self, game, last, most, told):
        self.assertEqual((type(told), len(told), told[0]), (tuple, 2, "table"))
        table = told[1]
        self.assertIs(look_table(table), True)
        self.assertLessEqual(len(table[0]), most)
        self.assertEqual(least(table), table)
        try:
            self.assertIs(let_by(game, last, table), True)
        except TooMany:
            pass
        lost = plain_loser(game, last)
        for counts in all_sums(len(game), 4):
            self.assertEqual(plain_thing(table, counts) in table[1], lost(counts))

    def look_open_told(self, game, last, most, told):
        self.assertEqual((type(told), len(told), told[0]), (tuple, 3, "open"))
        sums, thirds = told[1:]
        self.assertEqual((type(sums), len(sums), type(thirds)), (list, most + 1, dict))
        self.assertEqual(sums[0], (0,) * len(game))
        for place, counts in enumerate(sums[1:], start=1):
            self.assertIs(type(counts), tuple)
            self.assertTrue(any(is_one_more(counts, other) for other in sums[:place]))
        self.assertEqual(sorted(thirds), list(itertools.combinations(range(most + 1), 2)))
        lost = plain_loser(game, last)
        small = all_sums(len(game), max(sum(third) for third in thirds.values()))
        for (i, j), third in thirds.items():
            first = [other for other in small if lost(together(sums[i], other)) != lost(together(sums[j], other))][0]
            self.assertEqual(third, first)
        one, other = together(sums[0], thirds[0, most]), together(sums[most], thirds[0, most])
        self.assertNotEqual(loses(game, one, last), loses(game, other, last))

    def look(self, game, last, most):
        with self.subTest(game=game, last=last, most=most):
            told = made(game, last, most)
            if told[0] == "table":
                self.look_table_told(game, last, most, told)
            else:
                self.look_open_told(game, last, most, told)
        return told

    def look_all(self, game, last, size):
        """Of a game whose least table has so many things: for every most."""
        for most in range(1, 13):
            told = self.look(game, last, most)
            self.assertEqual(told[0], "open" if most < size else "table")
            if most >= size:
                self.assertEqual(len(told[1][0]), size)

    def test_a_game_without_heaps(self):
        for most in (1, 2, 12):
            self.assertEqual(made(EMPTY, "loses", most), ("table", (((),), ())))
            self.assertEqual(made(EMPTY, "wins", most), ("table", (((),), (0,))))

    def test_heaps_without_options(self):
        for game, row in ((ENDS, (0, 0)), (ENDS[:1], (0,)), (read("heap a :\nheap b :\nheap c :"), (0, 0, 0))):
            for most in (1, 2, 12):
                game = tuple((name, ()) for name, options in game)
                self.assertEqual(made(game, "loses", most), ("table", ((row,), ())))
                self.assertEqual(made(game, "wins", most), ("table", ((row,), (0,))))

    def test_one_heap(self):
        game = read("heap a : .")
        self.assertEqual(made(game, "loses", 2), ("table", (((1,), (0,)), (1,))))
        self.assertEqual(made(game, "wins", 12), ("table", (((1,), (0,)), (0,))))
        self.assertEqual(made(game, "loses", 1), ("open", [(0,), (1,)], {(0, 1): (0,)}))
        self.assertEqual(made(game, "wins", 1), ("open", [(0,), (1,)], {(0, 1): (0,)}))

    def test_known_tables(self):
        for last in LASTS:
            for game, numbers in ((NIM, (1, 2, 3)), (STILL, (0, 1, 2)),
                                  (read("row a to 2\ntake 1 none one\ntake 2 none"), (1, 2))):
                self.assertEqual(made(game, last, 12), ("table", nim_table(last, numbers=numbers)))

    def test_small_games(self):
        for game in GAMES:
            self.assertIs(look_game(game), True)
            for last in LASTS:
                for most in (3, 7, 12):
                    self.look(game, last, most)

    def test_all_games_of_few_heaps(self):
        for heaps in (1, 2):
            for game in some_games(heaps, 1):
                for last in LASTS:
                    told = self.look(game, last, 12)
                    self.look_all(game, last, len(told[1][0]))

    def test_every_number_of_things(self):
        self.look_all(NIM, "loses", 6)
        self.look_all(NIM, "wins", 4)
        self.look_all(read("row a to 4\ntake 1 none one\ntake 2 none one\ntake 3 none one\ntake 4 none"), "loses", 10)
        self.look_all(TWELVE, "loses", 12)
        self.look_all(FOURTEEN, "loses", 14)
        self.look_all(FOURTEEN, "wins", 4)

    def test_just_as_many_things_and_one_more(self):
        for game, last, size in ((TWELVE, "loses", 12), (FOURTEEN, "loses", 14), (NIM, "loses", 6), (NIM, "wins", 4)):
            self.assertEqual([made(game, last, most)[0] for most in (size - 1, size, size + 1)],
                             ["open", "table", "table"])
            self.assertEqual(made(game, last, size), made(game, last, size + 1))
            self.look(game, last, size - 1)

    def test_a_game_of_which_no_table_tells(self):
        lost = plain_loser(ENDLESS, "loses")
        for many in range(6):
            for other in range(7):
                if many <= other:
                    self.assertEqual(lost((0, 2 * other, 2 * many)), other > many)
        for most in range(1, 13):
            self.assertEqual(self.look(ENDLESS, "loses", most)[0], "open")
        self.assertEqual(self.look(ENDLESS, "loses", 20)[0], "open")
        for most in (4, 12):
            self.assertEqual(made(ENDLESS, "wins", most), ("table", nim_table("wins", numbers=(1, 2, 3))))
        self.assertEqual(self.look(ENDLESS, "wins", 3)[0], "open")

    def test_such_a_game_beside_others(self):
        game = read("heap a : .\nheap b : . | a\nheap c : . | a 2*b | 3*b\nheap e :\nheap d : e | a c")
        self.assertEqual(self.look(game, "loses", 12)[0], "open")
        self.assertEqual(self.look(game, "loses", 1)[0], "open")

    def test_more_heaps_and_greater_options(self):
        games = ("heap a : .\nheap b : . | a\nheap c : . | a | b | a b\nheap d : . | 2*c | 2*a b c\nheap f : 4*d",
                 "row a to 6\ntake 1 none\ntake 2 none one two", "row a to 5\ntake 1 none one two\ntake 2 none one two",
                 "heap a : .\nheap e :\nheap b : e | 3*a\nheap c : 2*b | a e | 4*e\nheap d : c | b c")
        for text in games:
            for last in LASTS:
                self.look(read(text), last, 12)

    def test_more_than_400_pairs(self):
        table = nim_table("wins", numbers=(1, 2, 4, 8) + (0,) * 8)
        with self.assertRaises(TooMany):
            let_by(MANY_PAIRS, "wins", table)
        self.assertEqual(made(MANY_PAIRS, "wins", 16), ("table", table))
        self.assertEqual(made(MANY_PAIRS, "wins", 15)[0], "open")

    def test_the_least_of_those_that_are_let_by(self):
        game = read("row a to 2\ntake 1 none one\ntake 2 none")
        fine = counted_table(((0, 2), (3, 2)), ((1, 0), (0, 2), (0, 4)), turned=True)
        self.assertIs(let_by(game, "loses", fine), True)
        told = made(game, "loses", 12)[1]
        self.assertEqual(least(fine), told)
        self.assertIsNotNone(led(fine, told))

    def test_every_small_table_that_is_let_by(self):
        game = read("heap a : .\nheap b : a")
        found = 0
        for bounds in (((0, 2), (0, 2)), ((1, 2), (0, 1)), ((2, 2), (0, 2)), ((0, 2), (1, 1))):
            steps = counted_table(bounds)[0]
            for last in LASTS:
                lost = plain_loser(game, last)
                losing = {plain_thing((steps, ()), counts) for counts in all_sums(2, 5) if lost(counts)}
                table = (steps, tuple(sorted(losing)))
                right = all((plain_thing(table, counts) in losing) == lost(counts) for counts in all_sums(2, 5))
                if right:
                    found += 1
                    self.assertIs(let_by(game, last, table), True)
                    self.assertEqual(made(game, last, 12), ("table", least(table)))
        self.assertEqual(found, 8)

    def test_told_lists_and_dicts_are_new_ones(self):
        told = made(NIM, "loses", 5)
        right = copy.deepcopy(told)
        told[1].clear()
        told[2].clear()
        self.assertEqual(made(NIM, "loses", 5), right)

    def test_by_name_and_again_with_another_game_between(self):
        before = copy.deepcopy((NIM, TWELVE))
        for most in (5, 12):
            told = made(game=NIM, last="loses", most=most)
            other = made(TWELVE, "wins", most)
            self.assertEqual(made(NIM, "loses", most), told)
            self.assertEqual(made(most=most, last="wins", game=TWELVE), other)
        self.assertNotEqual(made(NIM, "wins", 12), made(NIM, "loses", 12))
        self.assertEqual((NIM, TWELVE), before)


if __name__ == "__main__":
    unittest.main()
