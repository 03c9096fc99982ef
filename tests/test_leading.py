import copy
import itertools
import unittest

from lastloser.leading import led
from lastloser.least import least

from samples import LASTS, all_sums, counted_table, nim_table, plain_thing

ROUND = {size: tuple(((x + 1) % size,) for x in range(size)) for size in (1, 2, 3, 4, 6)}
TABLES = (nim_table("loses"), nim_table("wins"), nim_table("loses", turned=True), nim_table("wins", turned=True),
          counted_table(((0, 2), (1, 2), (0, 1)), ((1, 0, 0), (0, 2, 0))),
          counted_table(((0, 2), (1, 2), (0, 1)), ((1, 0, 0), (0, 2, 0)), turned=True))


def one_heap_tables(size):
    """All tables of one heap and so many things, all of them reached."""
    for row in itertools.product(range(size), repeat=size):
        found = [0]
        while row[found[-1]] not in found:
            found.append(row[found[-1]])
        if len(found) == size:
            for many in range(size + 1):
                for losing in itertools.combinations(range(size), many):
                    yield tuple((later,) for later in row), losing


def plainly_led(one, other):
    """The first map of all that keeps what point 23 says, or None."""
    for goes in itertools.product(range(len(other[0])), repeat=len(one[0]) - 1):
        goes = (0,) + goes
        steps = all(goes[later] == other[0][goes[x]][heap] for x, row in enumerate(one[0])
                    for heap, later in enumerate(row))
        if steps and all((x in one[1]) == (goes[x] in other[1]) for x in range(len(goes))):
            return goes
    return None


class Led(unittest.TestCase):
    def test_onto_itself(self):
        for table in TABLES:
            self.assertEqual(led(table, table), tuple(range(len(table[0]))))
        self.assertEqual(led((((),), ()), (((),), ())), (0,))
        self.assertEqual(led((((0, 0),), (0,)), (((0, 0),), (0,))), (0,))

    def test_onto_its_least(self):
        for table in TABLES:
            told = led(table, least(table))
            self.assertIs(type(told), tuple)
            for counts in all_sums(3, 5):
                self.assertEqual(told[plain_thing(table, counts)], plain_thing(least(table), counts))

    def test_numbered_otherwise(self):
        for last in LASTS:
            one, other = nim_table(last), nim_table(last, turned=True)
            size = len(one[0])
            self.assertEqual(led(one, other), (0,) + tuple(range(size - 1, 0, -1)))
            self.assertEqual(led(other, one), (0,) + tuple(range(size - 1, 0, -1)))

    def test_round_about(self):
        self.assertEqual(led((ROUND[6], (0, 2, 4)), (ROUND[2], (0,))), (0, 1, 0, 1, 0, 1))
        self.assertEqual(led((ROUND[6], (1, 4)), (ROUND[3], (1,))), (0, 1, 2, 0, 1, 2))
        self.assertEqual(led((ROUND[4], (0, 1, 2, 3)), (ROUND[1], (0,))), (0, 0, 0, 0))

    def test_onto_fewer_things_that_step_otherwise(self):
        self.assertIsNone(led((ROUND[3], ()), (ROUND[2], ())))
        self.assertIsNone(led((ROUND[4], ()), (ROUND[3], ())))
        self.assertIsNone(led((ROUND[3], ()), (((1,), (1,)), ())))

    def test_onto_fewer_things_with_others_losing(self):
        self.assertIsNone(led((ROUND[4], (0,)), (ROUND[2], (0,))))
        self.assertIsNone(led((ROUND[4], (0, 1, 2)), (ROUND[2], (0,))))
        self.assertIsNone(led((ROUND[4], (0, 2)), (ROUND[2], (1,))))
        self.assertIsNone(led((ROUND[4], ()), (ROUND[1], (0,))))
        self.assertIsNone(led((((),), ()), (((),), (0,))))
        self.assertIsNone(led((((),), (0,)), (((),), ())))

    def test_onto_more_things(self):
        for table in TABLES[4:]:
            if len(least(table)[0]) < len(table[0]):
                self.assertIsNone(led(least(table), table))
        self.assertIsNone(led((ROUND[2], ()), (ROUND[4], ())))
        self.assertIsNone(led((ROUND[1], ()), (ROUND[2], ())))
        self.assertIsNone(led((((0,),), ()), (((1,), (1,)), ())))

    def test_of_one_way_to_play_onto_the_other(self):
        self.assertIsNone(led(nim_table("loses"), nim_table("wins")))
        self.assertIsNone(led(nim_table("wins"), nim_table("loses")))
        steps = nim_table("loses")[0]
        self.assertEqual(led((steps, ()), (nim_table("wins")[0], ())), (0, 1, 2, 3, 0, 1))

    def test_by_all_maps(self):
        tables = [table for size in (1, 2, 3) for table in one_heap_tables(size)]
        found = []
        for one, other in itertools.product(tables, repeat=2):
            right = plainly_led(one, other)
            self.assertEqual(led(one, other), right)
            found.append(right)
        self.assertGreater(len(set(found)), 5)

    def test_by_all_maps_of_two_heaps(self):
        tables = [counted_table(bounds, losing, turned) for bounds in (((0, 2), (0, 1)), ((1, 1), (0, 1)),
                                                                       ((0, 2), (0, 2)), ((0, 1), (0, 1)))
                  for losing in ((), ((0, 0),), ((1, 0),), ((0, 0), (0, 1))) for turned in (False, True)]
        tables += [(((1, 1), (0, 0)), (0,)), (((1, 1), (0, 0)), (1,)), (((1, 1), (0, 0)), ())]
        for one, other in itertools.product(tables, repeat=2):
            self.assertEqual(led(one, other), plainly_led(one, other))

    def test_steps_by_another_heap_alone(self):
        one = (((0, 1), (1, 0)), (0,))
        self.assertIsNone(led(one, (((1, 0), (0, 1)), (0,))))
        self.assertIsNone(led(one, (((1, 1), (0, 0)), (0,))))
        self.assertEqual(led(one, one), (0, 1))

    def test_by_name(self):
        one, other = (ROUND[6], (0, 2, 4)), (ROUND[2], (0,))
        before = copy.deepcopy((one, other))
        self.assertEqual(led(other=other, one=one), (0, 1, 0, 1, 0, 1))
        self.assertIsNone(led(one=other, other=one))
        self.assertEqual(led(one, other), (0, 1, 0, 1, 0, 1))
        self.assertEqual((one, other), before)


if __name__ == "__main__":
    unittest.main()
