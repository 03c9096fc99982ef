import copy
import itertools
import unittest

from lastloser.parting import parting

from samples import all_sums, counted_table, nim_table, plain_thing

COUNTED = counted_table(((2, 3), (0, 2)))[0]
TABLES = tuple(
    [nim_table(last, turned) for last in ("loses", "wins") for turned in (False, True)]
    + [counted_table(((2, 3), (0, 2)), losing, turned) for losing in ((), ((1, 0),), ((2, 0), (2, 1)), ((4, 1), (0, 0)))
       for turned in (False, True)]
    + [(COUNTED, tuple(range(10))), (((0, 0),), (0,)), (((),), ()),
       (((1, 2), (0, 3), (3, 0), (2, 1)), (0, 3)), (((1, 3), (2, 0), (3, 1), (0, 2)), (2,))])


def first_parting(table, one, other):
    for counts in all_sums(len(table[0][0]), 6):
        lost = [plain_thing(table, tuple(map(sum, zip(here, counts)))) in table[1] for here in (one, other)]
        if lost[0] != lost[1]:
            return counts
    return None


class Parting(unittest.TestCase):
    def test_by_every_sum(self):
        for table in TABLES:
            first = {}
            for counts in all_sums(len(table[0][0]), 6):
                first.setdefault(plain_thing(table, counts), counts)
            self.assertEqual(len(first), len(table[0]))
            for x, y in itertools.product(range(len(table[0])), repeat=2):
                with self.subTest(table=table, x=x, y=y):
                    self.assertEqual(parting(table, x, y), first_parting(table, first[x], first[y]))

    def test_from_itself(self):
        for table in TABLES:
            for x in range(len(table[0])):
                self.assertIsNone(parting(table, x, x))

    def test_the_sum_without_heaps(self):
        self.assertEqual(parting((((1,), (0,)), (0,)), 0, 1), (0,))
        self.assertEqual(parting((((1,), (0,)), (0,)), 1, 0), (0,))

    def test_alike_things(self):
        steps = tuple(((x + 1) % 4,) for x in range(4))
        self.assertIsNone(parting((steps, (0, 2)), 0, 2))
        self.assertIsNone(parting((steps, (0, 2)), 3, 1))
        self.assertEqual(parting((steps, (0, 2)), 0, 3), (0,))
        for losing in ((), (0, 1, 2, 3)):
            for x, y in itertools.product(range(4), repeat=2):
                self.assertIsNone(parting((steps, losing), x, y))

    def test_many_heaps_put_to_both(self):
        for size in (20, 30):
            chain = tuple((min(x + 1, size - 1),) for x in range(size))
            self.assertEqual(parting((chain, (size - 1,)), 0, 1), (size - 2,))
            self.assertEqual(parting((chain, (size - 1,)), size - 2, 0), (1,))
            self.assertEqual(parting((chain, (size - 1,)), size - 1, size - 2), (0,))

    def test_in_the_order_of_sums_not_of_things(self):
        table = counted_table(((0, 2), (0, 3)), ((0, 1),), turned=True)
        first = {plain_thing(table, counts): counts for counts in reversed(all_sums(2, 4))}
        for x, y in itertools.combinations(range(6), 2):
            self.assertEqual(parting(table, x, y), first_parting(table, first[x], first[y]))

    def test_of_nim(self):
        table = nim_table("loses")
        self.assertEqual([parting(table, 0, y) for y in range(6)],
                         [None, (0, 0, 0), (1, 0, 0), (1, 0, 0), (0, 0, 0), (0, 2, 0)])

    def test_by_name(self):
        table = nim_table("wins")
        before = copy.deepcopy(table)
        self.assertEqual(parting(table=table, x=1, y=2), (1, 0, 0))
        self.assertEqual(parting(y=1, x=1, table=table), None)
        self.assertEqual(table, before)


if __name__ == "__main__":
    unittest.main()
