import copy
import unittest

from lastloser.checker import let_by
from lastloser.errors import TooMany, Wrong
from lastloser.games import look_game
from lastloser.least import least
from lastloser.made import made
from lastloser.numbers import number_of, number_table, numbers
from lastloser.reader import read
from lastloser.tables import look_table

from samples import (EMPTY, ENDLESS, GAMES, GREAT, MANY_PAIRS, NIM, STILL, all_sums, nim_table, plain_loser,
                     plain_thing)

DAWSON = read("row a to 9\ntake 1 none\ntake 2 none one two")
# Numbers 1, 2, 4, 8, 16, and one more that is none of those that can come to 31.
WIDE = read("heap a : .\nheap b : . | a\nheap c : . | a | b | a b\n"
            "heap d : . | a | b | c | a b | a c | b c | a b c\n"
            "heap e : . | a | b | c | d | a b | a c | a d | b c | b d | c d | a b c | a b d | a c d | b c d | a b c d\n"
            "heap f : . | a | c | a c e")


def plain_number(game, counts, known):
    """The least number that no move leads to: straight, of sums, not of heaps."""
    if counts not in known:
        taken = set()
        for h, heap in enumerate(game):
            if counts[h]:
                for option in heap[1]:
                    later = tuple(here - (place == h) + there
                                  for place, (here, there) in enumerate(zip(counts, option)))
                    taken.add(plain_number(game, later, known))
        known[counts] = min(set(range(len(taken) + 1)) - taken)
    return known[counts]


class Numbers(unittest.TestCase):
    def test_without_heaps_or_options(self):
        self.assertEqual(numbers(EMPTY), [])
        self.assertEqual(number_of(EMPTY, ()), 0)
        self.assertEqual(numbers(read("heap e :\nheap f :")), [0, 0])
        self.assertEqual(number_of(read("heap e :\nheap f :"), (GREAT, 3)), 0)

    def test_known_ones(self):
        self.assertEqual(numbers(NIM), [1, 2, 3])
        self.assertEqual(numbers(STILL), [0, 1, 2])
        self.assertEqual(numbers(ENDLESS), [1, 2, 3])
        self.assertEqual(numbers(DAWSON), [1, 1, 0, 2, 1, 3, 0, 1, 1])
        self.assertEqual(numbers(WIDE), [1, 2, 4, 8, 16, 2])

    def test_the_least_that_is_left_out(self):
        self.assertEqual(numbers(read("heap a : .\nheap b : a\nheap c : a | b\nheap d : c\nheap f : . | c | a c")),
                         [1, 0, 2, 0, 1])

    def test_of_each_sum_straight(self):
        for game in GAMES[::2]:
            known = {}
            for counts in all_sums(len(game), 3):
                self.assertEqual(number_of(game, counts), plain_number(game, counts, known))

    def test_a_sum_loses_just_where_it_is_0(self):
        for game in GAMES:
            loses = plain_loser(game, "wins")
            for counts in all_sums(len(game), 3):
                self.assertEqual(number_of(game, counts) == 0, loses(counts))

    def test_very_many(self):
        self.assertEqual(number_of(NIM, (GREAT, GREAT, GREAT)), 0)
        self.assertEqual(number_of(NIM, (GREAT - 1, GREAT, GREAT)), 1)
        self.assertEqual(number_of(NIM, (GREAT - 1, GREAT - 1, GREAT)), 3)
        self.assertEqual(number_of(NIM, (GREAT + 1, GREAT - 1, 1)), 0)
        self.assertEqual(number_of(STILL, (GREAT - 1, GREAT, 3)), 2)

    def test_new_lists_and_names(self):
        before = copy.deepcopy(NIM)
        told = numbers(game=NIM)
        told.append(7)
        self.assertEqual(numbers(NIM), [1, 2, 3])
        self.assertEqual(number_of(counts=(0, 1, 1), game=NIM), 1)
        self.assertEqual(number_of(STILL, (0, 1, 1)), 3)
        self.assertEqual(NIM, before)


class NumberTable(unittest.TestCase):
    def test_small_ones(self):
        self.assertEqual(number_table(EMPTY), (((),), (0,)))
        self.assertEqual(number_table(read("heap e :\nheap f :")), (((0, 0),), (0,)))
        self.assertEqual(number_table(NIM), nim_table("wins"))
        self.assertEqual(number_table(game=STILL), (((0, 1, 2), (1, 0, 3), (2, 3, 0), (3, 2, 1)), (0,)))

    def test_numbered_by_first_sums(self):
        game = read("heap a : .\nheap b : . | a\nheap c : . | a | b | a b")
        told = number_table(game)
        self.assertEqual(told[0][0], (1, 2, 3))
        self.assertEqual(told[0][1], (0, 4, 5))
        self.assertEqual(told, nim_table("wins", numbers=(1, 2, 4)))

    def test_made_tells_the_same(self):
        for game in GAMES + [ENDLESS]:
            told = number_table(game)
            self.assertEqual(made(game, "wins", 12), ("table", told))
            self.assertEqual(least(told), told)
            self.assertIs(let_by(game, "wins", told), True)

    def test_of_each_sum(self):
        for game in GAMES[::3]:
            told = number_table(game)
            loses = plain_loser(game, "wins")
            things = {}
            for counts in all_sums(len(game), 3):
                thing = plain_thing(told, counts)
                self.assertEqual(thing in told[1], loses(counts))
                self.assertEqual(things.setdefault(thing, number_of(game, counts)), number_of(game, counts))
            self.assertEqual(len(set(things.values())), len(things))

    def test_many_things(self):
        self.assertIs(look_game(WIDE), True)
        told = number_table(WIDE)
        self.assertEqual(len(told[0]), 32)
        self.assertIs(look_table(told), True)
        self.assertEqual(least(told), told)
        self.assertIs(let_by(WIDE, "wins", told), True)

    def test_let_by_but_for_too_many(self):
        told = number_table(MANY_PAIRS)
        self.assertEqual(told, nim_table("wins", numbers=(1, 2, 4, 8) + (0,) * 8))
        with self.assertRaises(TooMany):
            let_by(MANY_PAIRS, "wins", told)
        for thing in range(16):
            losing = tuple(sorted({0} ^ {thing}))
            with self.assertRaises(Wrong):
                let_by(MANY_PAIRS, "wins", (told[0], losing))


if __name__ == "__main__":
    unittest.main()
