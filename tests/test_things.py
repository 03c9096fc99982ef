import copy
import itertools
import unittest

from lastloser.tables import look_table
from lastloser.things import put, thing_of

from samples import GREAT, all_sums, counted_table, nim_table, plain_thing

ONE = (((0, 0, 0),), (0,))
NONE = (((),), ())
TURNED = counted_table(((2, 3), (0, 2)), turned=True)
TABLES = (ONE, NONE, TURNED, nim_table("loses"), nim_table("wins"), nim_table("loses", turned=True),
          counted_table(((0, 1), (1, 1), (3, 1))), counted_table(((7, 5), (1, 2))))


class ThingOf(unittest.TestCase):
    def test_the_sum_without_heaps(self):
        for table in TABLES:
            self.assertEqual(thing_of(table, (0,) * len(table[0][0])), 0)

    def test_one_step(self):
        for table in TABLES:
            heaps = len(table[0][0])
            for heap in range(heaps):
                counts = (0,) * heap + (1,) + (0,) * (heaps - heap - 1)
                self.assertEqual(thing_of(table, counts), table[0][0][heap])

    def test_step_by_step(self):
        for table in TABLES:
            self.assertIs(look_table(table), True)
            for counts in all_sums(len(table[0][0]), 9):
                self.assertEqual(thing_of(table, counts), plain_thing(table, counts))

    def test_far_along_one_heap(self):
        table = counted_table(((7, 5),), turned=True)
        for many in range(60):
            self.assertEqual(thing_of(table, (many,)), plain_thing(table, (many,)))

    def test_very_many(self):
        self.assertEqual(thing_of(ONE, (GREAT, GREAT, GREAT)), 0)
        nim = nim_table("wins")
        self.assertEqual(thing_of(nim, (GREAT, GREAT, GREAT)), 0)
        self.assertEqual(thing_of(nim, (GREAT, GREAT - 1, GREAT)), plain_thing(nim, (0, 1, 0)))
        nim = nim_table("loses")
        self.assertEqual(thing_of(nim, (GREAT, 0, 0)), 0)
        self.assertEqual(thing_of(nim, (GREAT, GREAT, GREAT)), plain_thing(nim, (2, 2, 2)))
        self.assertEqual(thing_of(nim, (GREAT - 1, GREAT, 0)), plain_thing(nim, (1, 2, 0)))

    def test_very_many_of_each(self):
        bounds = ((2, 3), (0, 2), (1, 1))
        table = counted_table(bounds, turned=True)
        for counts in itertools.product((0, 1, 2, GREAT - 2, GREAT - 1, GREAT), repeat=3):
            near = tuple(many if many < tail else tail + (many - tail) % period
                         for many, (tail, period) in zip(counts, bounds))
            self.assertEqual(thing_of(table, counts), plain_thing(table, near))

    def test_a_long_way_round(self):
        table = counted_table(((13, 17),))
        for many in (12, 13, 29, 30, 31, GREAT, GREAT + 1):
            near = many if many < 13 else 13 + (many - 13) % 17
            self.assertEqual(thing_of(table, (many,)), near)

    def test_by_name(self):
        self.assertEqual(thing_of(table=TURNED, counts=(1, 0)), TURNED[0][0][0])


class Put(unittest.TestCase):
    def test_with_thing_0(self):
        for table in TABLES:
            for x in range(len(table[0])):
                self.assertEqual(put(table, x, 0), x)
                self.assertEqual(put(table, 0, x), x)

    def test_of_sums_put_together(self):
        for table in TABLES:
            sums = all_sums(len(table[0][0]), 4)
            for one, other in itertools.product(sums, repeat=2):
                both = tuple(here + there for here, there in zip(one, other))
                told = put(table, plain_thing(table, one), plain_thing(table, other))
                self.assertEqual(told, plain_thing(table, both))

    def test_every_two_things(self):
        bounds = ((2, 3), (0, 2))
        for turned in (False, True):
            table = counted_table(bounds, turned=turned)
            sums = {plain_thing(table, counts): counts for counts in itertools.product(range(5), range(2))}
            self.assertEqual(len(sums), len(table[0]))
            for x, y in itertools.product(sums, repeat=2):
                both = tuple(here + there for here, there in zip(sums[x], sums[y]))
                self.assertEqual(put(table, x, y), plain_thing(table, both))
                self.assertEqual(put(table, y, x), put(table, x, y))

    def test_without_heaps(self):
        self.assertEqual(put(NONE, 0, 0), 0)

    def test_by_name(self):
        self.assertEqual(put(table=counted_table(((7, 5),)), x=3, y=4), 7)
        self.assertEqual(put(table=counted_table(((7, 5),)), y=11, x=11), 7 + (22 - 7) % 5)

    def test_nothing_handed_in_is_changed(self):
        for table in TABLES:
            before = copy.deepcopy(table)
            for x in range(len(table[0])):
                put(table, x, len(table[0]) - 1)
            thing_of(table, (GREAT,) * len(table[0][0]))
            self.assertEqual(table, before)


if __name__ == "__main__":
    unittest.main()
