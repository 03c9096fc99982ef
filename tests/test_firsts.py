import copy
import unittest

from lastloser.firsts import firsts
from lastloser.tables import look_table

from samples import all_sums, counted_table, nim_table, plain_thing

TABLES = (
    nim_table("loses"), nim_table("wins"), nim_table("loses", turned=True), nim_table("loses", numbers=(0, 1, 2)),
    counted_table(((2, 3), (0, 2))), counted_table(((2, 3), (0, 2)), turned=True),
    counted_table(((0, 2), (1, 1), (2, 1)), turned=True),
    (((1, 2), (0, 3), (3, 0), (2, 1)), (0,)), (((2, 1), (3, 0), (0, 3), (1, 2)), (0,)),
    (((1, 2, 3), (1, 3, 3), (3, 2, 3), (3, 3, 3)), ()),
)


class Firsts(unittest.TestCase):
    def test_one_thing(self):
        self.assertEqual(firsts((((),), ())), [()])
        self.assertEqual(firsts((((0,),), (0,))), [(0,)])
        self.assertEqual(firsts(table=(((0, 0, 0),), ())), [(0, 0, 0)])

    def test_by_every_sum(self):
        for table in TABLES:
            with self.subTest(table):
                self.assertIs(look_table(table), True)
                right = {}
                for counts in all_sums(len(table[0][0]), 6):
                    right.setdefault(plain_thing(table, counts), counts)
                self.assertEqual(firsts(table), [right[x] for x in range(len(table[0]))])

    def test_of_as_many_heaps_more_of_the_first(self):
        table = (((1, 2), (3, 3), (3, 3), (0, 0)), ())
        self.assertEqual(firsts(table), [(0, 0), (1, 0), (0, 1), (2, 0)])
        table = (((1, 2), (0, 3), (3, 0), (2, 1)), ())
        self.assertEqual(firsts(table), [(0, 0), (1, 0), (0, 1), (1, 1)])

    def test_fewer_heaps_first(self):
        table = (((1, 3), (2, 0), (3, 1), (0, 2)), ())
        self.assertIs(look_table(table), True)
        self.assertEqual(firsts(table), [(0, 0), (1, 0), (2, 0), (0, 1)])

    def test_many_heaps_ahead(self):
        for size in (20, 30, 64):
            chain = tuple((min(x + 1, size - 1),) for x in range(size))
            self.assertEqual(firsts((chain, ())), [(x,) for x in range(size)])
            back = ((size - 1,),) + tuple((max(x - 1, 1),) for x in range(1, size))
            self.assertEqual(firsts((back, ())), [(0,)] + [(size - x,) for x in range(1, size)])
        round_about = tuple(((x + 1) % 20, (x + 7) % 20) for x in range(20))
        right = {}
        for counts in all_sums(2, 20):
            right.setdefault((counts[0] + 7 * counts[1]) % 20, counts)
        self.assertEqual(firsts((round_about, ())), [right[x] for x in range(20)])

    def test_losing_things_change_nothing(self):
        for steps, losing in TABLES:
            self.assertEqual(firsts((steps, ())), firsts((steps, losing)))

    def test_told_lists_are_new_ones(self):
        table = nim_table("wins")
        before = copy.deepcopy(table)
        told = firsts(table)
        right = list(told)
        told.clear()
        self.assertEqual(firsts(table), right)
        self.assertEqual(table, before)


if __name__ == "__main__":
    unittest.main()
