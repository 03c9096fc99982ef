import copy
import unittest

from lastloser.made import made
from lastloser.playing import winning
from lastloser.reader import read
from lastloser.sums import moves

from samples import EMPTY, GAMES, GREAT, LASTS, NIM, STILL, all_sums, counted_table, nim_table, plain_loser


def plainly_winning(game, counts, loses):
    for h, k, later in moves(game, counts):
        if loses(later):
            return h, k
    return None


class Winning(unittest.TestCase):
    def test_by_plain_walks(self):
        for game in GAMES[::3] + GAMES[-4:]:
            for last in LASTS:
                told = made(game, last, 12)
                if told[0] == "table":
                    loses = plain_loser(game, last)
                    for counts in all_sums(len(game), 3):
                        with self.subTest(game=game, last=last, counts=counts):
                            right = plainly_winning(game, counts, loses)
                            self.assertEqual(winning(game, told[1], counts), right)
                            self.assertEqual(right is None, loses(counts) or not moves(game, counts))

    def test_from_an_end(self):
        for last in LASTS:
            self.assertIsNone(winning(EMPTY, nim_table(last, numbers=()), ()))
            self.assertIsNone(winning(NIM, nim_table(last), (0, 0, 0)))
            for many in (0, 1, 5, GREAT):
                self.assertIsNone(winning(STILL, nim_table(last, numbers=(0, 1, 2)), (many, 0, 0)))

    def test_from_sums_that_lose(self):
        self.assertIsNone(winning(NIM, nim_table("loses"), (1, 0, 0)))
        self.assertIsNone(winning(NIM, nim_table("loses"), (0, 2, 0)))
        self.assertIsNone(winning(NIM, nim_table("wins"), (1, 1, 1)))
        self.assertIsNone(winning(NIM, nim_table("wins"), (GREAT, GREAT, GREAT)))

    def test_known_moves(self):
        self.assertEqual(winning(NIM, nim_table("loses"), (2, 0, 0)), (0, 0))
        self.assertEqual(winning(NIM, nim_table("loses"), (0, 0, 1)), (2, 1))
        self.assertEqual(winning(NIM, nim_table("wins"), (0, 0, 1)), (2, 0))
        self.assertEqual(winning(NIM, nim_table("wins"), (0, 1, 1)), (2, 2))
        self.assertEqual(winning(STILL, nim_table("wins", numbers=(0, 1, 2)), (0, 0, 1)), (2, 1))

    def test_the_first_of_several(self):
        game = read("heap a : .\nheap b : .\nheap c : . | a | b | a b | 2*b")
        table = made(game, "loses", 12)[1]
        self.assertEqual(winning(game, table, (1, 1, 1)), (2, 1))
        table = made(game, "wins", 12)[1]
        self.assertEqual(winning(game, table, (1, 1, 1)), (2, 0))
        self.assertEqual(winning(game, table, (1, 0, 0)), (0, 0))
        self.assertEqual(winning(game, table, (2, 1, 0)), (0, 0))
        self.assertEqual(winning(game, table, (0, 1, 0)), (1, 0))

    def test_very_many_heaps(self):
        for last in LASTS:
            table = nim_table(last)
            for near in all_sums(3, 4):
                # Beside an even number of heaps of each kind, where there are some above 1 in either sum.
                counts = tuple(GREAT - 4 + many for many in near)
                near = tuple(many + 2 for many in near)
                self.assertEqual(winning(NIM, table, counts), winning(NIM, table, near))
        self.assertEqual(winning(NIM, nim_table("loses"), (GREAT, 0, 1)), (2, 1))
        self.assertEqual(winning(NIM, nim_table("loses"), (GREAT - 1, 0, 1)), (2, 0))
        self.assertEqual(winning(NIM, nim_table("loses"), (GREAT, 0, 0)), (0, 0))
        self.assertEqual(winning(NIM, nim_table("wins"), (GREAT - 1, 0, 0)), (0, 0))

    def test_by_a_finer_table(self):
        game = read("row a to 2\ntake 1 none one\ntake 2 none")
        fine = counted_table(((0, 2), (3, 2)), ((1, 0), (0, 2), (0, 4)), turned=True)
        loses = plain_loser(game, "loses")
        for counts in all_sums(2, 7):
            self.assertEqual(winning(game, fine, counts), plainly_winning(game, counts, loses))

    def test_by_name_and_again(self):
        table = nim_table("loses")
        before = copy.deepcopy((NIM, table))
        told = winning(game=NIM, table=table, counts=(1, 1, 0))
        self.assertEqual(told, (1, 0))
        self.assertIs(type(told), tuple)
        self.assertEqual(winning(STILL, nim_table("wins", numbers=(0, 1, 2)), (0, 1, 0)), (1, 0))
        self.assertEqual(winning(counts=(1, 1, 0), table=table, game=NIM), told)
        self.assertEqual((NIM, table), before)


if __name__ == "__main__":
    unittest.main()
