import copy
import itertools
import unittest

from lastloser.errors import HeapError, TooMany, Twice
from lastloser.games import look_game
from lastloser.joining import joined
from lastloser.numbers import number_of, numbers
from lastloser.picking import picked
from lastloser.reader import read
from lastloser.writer import shown

from samples import EMPTY, GAMES, NIM, STILL, all_sums, plain_loser

TWO = read("heap b1 : .\nheap b2 : . | b1")


def renamed(game, sign):
    return tuple((sign + name, options) for name, options in game)


class Joined(unittest.TestCase):
    def look_twice(self, one, other, name):
        with self.assertRaises(Twice) as caught:
            joined(one, other)
        self.assertEqual(caught.exception.name, name)
        self.assertIsInstance(caught.exception, HeapError)

    def test_with_the_game_without_heaps(self):
        for game in (EMPTY, NIM, STILL):
            self.assertEqual(joined(game, EMPTY), game)
            self.assertEqual(joined(EMPTY, game), game)

    def test_two_games(self):
        self.assertEqual(joined(TWO, read("heap c : .\nheap d : c | 2*c")),
                         (("b1", ((0, 0, 0, 0),)), ("b2", ((0, 0, 0, 0), (1, 0, 0, 0))),
                          ("c", ((0, 0, 0, 0),)), ("d", ((0, 0, 1, 0), (0, 0, 2, 0)))))
        self.assertEqual(shown(joined(STILL, TWO)), shown(STILL) + "\n" + shown(TWO))
        self.assertEqual(shown(joined(TWO, STILL)), shown(TWO) + "\n" + shown(STILL))

    def test_each_is_picked_again(self):
        for one, other in itertools.product(GAMES[::7], repeat=2):
            other = renamed(other, "z")
            told = joined(one, other)
            self.assertIs(look_game(told), True)
            self.assertEqual(picked(told, tuple(range(len(one)))), one)
            self.assertEqual(picked(told, tuple(range(len(one), len(told)))), other)
            self.assertEqual(read(shown(told)), told)

    def test_who_loses_in_either(self):
        told = joined(TWO, STILL)
        for last in ("loses", "wins"):
            lost = plain_loser(told, last)
            for game, ahead, behind in ((TWO, (), (0, 0, 0)), (STILL, (0, 0), ())):
                alone = plain_loser(game, last)
                for counts in all_sums(len(game), 3):
                    self.assertEqual(lost(ahead + counts + behind), alone(counts))

    def test_shared_names(self):
        self.look_twice(NIM, NIM, "a1")
        self.look_twice(NIM, read("heap b : .\nheap a3 : b\nheap a1 : b"), "a3")
        self.look_twice(STILL, read("heap x :\nheap t :\nheap s : x"), "t")
        self.look_twice(read("heap x :\nheap t :\nheap s : x"), STILL, "s")
        self.look_twice(TWO, read("heap b :\nheap b2 : b"), "b2")
        self.look_twice(STILL[:1], STILL[:1], "e")

    def test_more_than_12_heaps(self):
        one = read("row a to 9\ntake 1 none one")
        other = read("row b to 9\ntake 1 none one\ntake 2 none one")
        told = joined(one, other)
        self.assertEqual(len(told), 18)
        self.assertIs(look_game(told), True)
        self.assertEqual(shown(told), shown(one) + "\n" + shown(other))
        with self.assertRaises(TooMany):
            read(shown(told))
        self.assertEqual(numbers(told), numbers(one) + numbers(other))
        self.assertEqual(number_of(told, (1,) * 18), number_of(one, (1,) * 9) ^ number_of(other, (1,) * 9))
        just = joined(one, read("row b to 3\ntake 1 none one"))
        self.assertEqual(read(shown(just)), just)

    def test_by_name(self):
        before = copy.deepcopy((TWO, STILL))
        self.assertEqual(joined(other=STILL, one=TWO), joined(TWO, STILL))
        self.assertNotEqual(joined(TWO, STILL), joined(STILL, TWO))
        self.assertEqual((TWO, STILL), before)


if __name__ == "__main__":
    unittest.main()
