import itertools
import unittest

from lastloser.reader import read
from lastloser.sums import in_order, moves
from lastloser.walks import loses, reached, walked

NIM = read("row a to 3\ntake 1 none one\ntake 2 none one\ntake 3 none one")
DAWSON = read("row a to 6\ntake 1 none\ntake 2 none one two")
STILL = read("heap e :\nheap s : . | 2*e\nheap t : e s | 2*s")
GAMES = ((NIM, 3, 3), (DAWSON, 6, 2), (STILL, 3, 4))


def plainly_reached(game, counts):
    found = {counts}
    for h, k, later in moves(game, counts):
        found |= plainly_reached(game, later)
    return found


def plainly_loses(game, counts, last, known):
    if counts not in known:
        laters = [move[2] for move in moves(game, counts)]
        if laters:
            known[counts] = not any([plainly_loses(game, later, last, known) for later in laters])
        else:
            known[counts] = last == "wins"
    return known[counts]


def small_sums(heaps, most):
    return [counts for counts in itertools.product(range(most + 1), repeat=heaps) if sum(counts) <= most]


class Reached(unittest.TestCase):
    def test_an_end(self):
        self.assertEqual(reached((), ()), [()])
        self.assertEqual(reached(NIM, (0, 0, 0)), [(0, 0, 0)])
        self.assertEqual(reached(STILL, (10 ** 30, 0, 0)), [(10 ** 30, 0, 0)])

    def test_in_order(self):
        self.assertEqual(reached(NIM, (0, 0, 1)), [(0, 0, 0), (1, 0, 0), (0, 1, 0), (0, 0, 1)])
        self.assertEqual(reached(STILL, (0, 1, 0)), [(0, 0, 0), (0, 1, 0), (2, 0, 0)])
        self.assertEqual(reached(STILL, (0, 0, 1)),
                         [(0, 0, 0), (1, 0, 0), (0, 1, 0), (0, 0, 1), (2, 0, 0), (1, 1, 0), (0, 2, 0), (3, 0, 0),
                          (2, 1, 0), (4, 0, 0)])

    def test_plainly(self):
        for game, heaps, most in GAMES:
            for counts in small_sums(heaps, most):
                right = in_order(list(plainly_reached(game, counts)))
                self.assertEqual(reached(game, counts), right)

    def test_told_lists_are_new_ones(self):
        told = reached(game=NIM, counts=(1, 0, 0))
        told.append("other")
        self.assertEqual(reached(NIM, (1, 0, 0)), [(0, 0, 0), (1, 0, 0)])


class Loses(unittest.TestCase):
    def test_ends(self):
        for game, counts in (((), ()), (NIM, (0, 0, 0)), (STILL, (10 ** 30, 0, 0))):
            self.assertIs(loses(game, counts, "wins"), True)
            self.assertIs(loses(game, counts, "loses"), False)

    def test_one_heap_of_one(self):
        self.assertIs(loses(NIM, (1, 0, 0), "wins"), False)
        self.assertIs(loses(NIM, (1, 0, 0), "loses"), True)
        self.assertIs(loses(game=NIM, counts=(2, 0, 0), last="loses"), False)

    def test_known_of_nim(self):
        for counts in small_sums(3, 5):
            number = (counts[0] % 2) ^ (2 * (counts[1] % 2)) ^ (3 * (counts[2] % 2))
            plain = counts[1] == counts[2] == 0
            self.assertEqual(loses(NIM, counts, "wins"), number == 0)
            self.assertEqual(loses(NIM, counts, "loses"), (number == 1) if plain else (number == 0))

    def test_plainly(self):
        for game, heaps, most in GAMES:
            for last in ("loses", "wins"):
                known = {}
                for counts in small_sums(heaps, most):
                    self.assertIs(loses(game, counts, last), plainly_loses(game, counts, last, known))

    def test_great_counts_of_heaps_without_options(self):
        great = 10 ** 30
        self.assertIs(loses(STILL, (great, 1, 0), "wins"), False)
        self.assertIs(loses(STILL, (great, 1, 0), "loses"), True)
        self.assertEqual(reached(STILL, (great, 1, 0)), [(great, 0, 0), (great, 1, 0), (great + 2, 0, 0)])


class Walked(unittest.TestCase):
    def test_in_order(self):
        told = walked(NIM, (0, 1, 1), "loses")
        self.assertEqual(list(told), reached(NIM, (0, 1, 1)))
        self.assertEqual(told[(0, 0, 0)], False)
        self.assertEqual(list(walked(NIM, (1, 0, 0), "wins").items()), [((0, 0, 0), True), ((1, 0, 0), False)])
        self.assertEqual(walked((), (), "wins"), {(): True})

    def test_plainly(self):
        for game, heaps, most in GAMES:
            for last in ("loses", "wins"):
                known = {}
                for counts in small_sums(heaps, most):
                    plainly_loses(game, counts, last, known)
                    told = walked(game, counts, last)
                    self.assertEqual(list(told), reached(game, counts))
                    for other, lost in told.items():
                        self.assertIs(lost, known[other])

    def test_told_dicts_are_new_ones(self):
        told = walked(game=NIM, counts=(1, 0, 0), last="wins")
        told.clear()
        self.assertEqual(walked(NIM, (1, 0, 0), "wins"), {(0, 0, 0): True, (1, 0, 0): False})


class Long(unittest.TestCase):
    def test_plays_as_long_as_may_be(self):
        game = read("heap a : .")
        self.assertEqual(reached(game, (1999,)), [(many,) for many in range(2000)])
        for last, first in (("wins", True), ("loses", False)):
            right = [((many,), (many % 2 == 0) == first) for many in range(2000)]
            self.assertEqual(list(walked(game, (1999,), last).items()), right)
            self.assertIs(loses(game, (1999,), last), not first)

    def test_many_unlike_sums(self):
        game = read("row a to 2\ntake 1 none one\ntake 2 none")
        counts = (0, 61)
        told = walked(game, counts, "loses")
        self.assertEqual(len(told), 62 * 63 // 2)
        self.assertLessEqual(len(told), 2000)
        for other, lost in told.items():
            number = (other[0] % 2) ^ (2 * (other[1] % 2))
            self.assertIs(lost, (number == 1) if other[1] == 0 else (number == 0))


if __name__ == "__main__":
    unittest.main()
