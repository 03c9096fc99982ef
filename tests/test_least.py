import copy
import itertools
import unittest

from lastloser.firsts import firsts
from lastloser.least import least
from lastloser.parting import parting
from lastloser.sums import in_order
from lastloser.tables import look_table

from samples import LASTS, all_sums, counted_table, finer, nim_table, plain_thing, together

RIGHT = ((1, 2, 3), (0, 1, 2), (1, 2), (2, 1), (0, 0), (1,), ())
BOUNDS = (((2, 3),), ((0, 4),), ((3, 1),), ((0, 2), (1, 2)), ((1, 1), (0, 2), (0, 1)))


def some_tables():
    for bounds in BOUNDS:
        steps = counted_table(bounds)[0]
        for many in range(len(steps) + 1):
            for losing in itertools.combinations(range(len(steps)), many):
                yield steps, losing
    for bounds in BOUNDS[3:]:
        steps = counted_table(bounds, turned=True)[0]
        for many in (1, 2, 3):
            for losing in itertools.combinations(range(len(steps)), many):
                yield steps, losing


def plain_least(table, most):
    """Sums of at most so many heaps, alike where they lose beside just the same ones; numbered as they come."""
    heaps = len(table[0][0])
    sums = all_sums(heaps, most)
    lost = {counts: plain_thing(table, counts) in table[1] for counts in all_sums(heaps, 2 * most + 1)}
    beside = {}
    for counts in all_sums(heaps, most + 1):
        beside[counts] = tuple(lost[together(counts, other)] for other in sums)
    first = {}
    for counts in sums:
        first.setdefault(beside[counts], counts)
    numbers = {kind: number for number, kind in enumerate(first)}
    steps = []
    for counts in first.values():
        laters = [together(counts, tuple(int(heap == other) for other in range(heaps))) for heap in range(heaps)]
        steps.append(tuple(numbers[beside[later]] for later in laters))
    return tuple(steps), tuple(numbers[beside[counts]] for counts in first.values() if lost[counts])


class Least(unittest.TestCase):
    def test_one_thing(self):
        for table in ((((0,),), ()), (((0,),), (0,)), (((0, 0, 0),), ()), (((0, 0, 0),), (0,))):
            self.assertEqual(least(table), table)

    def test_without_heaps(self):
        self.assertEqual(least((((),), ())), (((),), ()))
        self.assertEqual(least((((),), (0,))), (((),), (0,)))

    def test_none_or_all_losing(self):
        for bounds in BOUNDS:
            for turned in (False, True):
                steps = counted_table(bounds, turned=turned)[0]
                one = ((0,) * len(bounds),)
                self.assertEqual(least((steps, ())), (one, ()))
                self.assertEqual(least((steps, tuple(range(len(steps))))), (one, (0,)))

    def test_alike_things(self):
        round_about = tuple(((x + 1) % 4,) for x in range(4))
        self.assertEqual(least((round_about, (0, 2))), (((1,), (0,)), (0,)))
        self.assertEqual(least((round_about, (1, 3))), (((1,), (0,)), (1,)))
        self.assertEqual(least((round_about, (1,))), (round_about, (1,)))
        chain = ((1,), (2,), (3,), (3,))
        self.assertEqual(least((chain, (1,))), (((1,), (2,), (2,)), (1,)))
        self.assertEqual(least((chain, (0, 3))), (chain, (0, 3)))

    def test_by_every_sum(self):
        for table in some_tables():
            with self.subTest(table):
                self.assertIs(look_table(table), True)
                self.assertEqual(least(table), plain_least(table, 6))

    def test_numbered_by_first_sums(self):
        for table in some_tables():
            told = least(table)
            self.assertIs(look_table(told), True)
            self.assertEqual(firsts(told), in_order(firsts(told)))

    def test_each_two_things_are_parted(self):
        for table in some_tables():
            told = least(table)
            for x, y in itertools.combinations(range(len(told[0])), 2):
                self.assertIsNotNone(parting(told, x, y))

    def test_its_own_least(self):
        for table in some_tables():
            told = least(table)
            self.assertEqual(least(told), told)
        for numbers in RIGHT[:4]:
            for last in LASTS:
                table = nim_table(last, numbers=numbers)
                self.assertEqual(least(table), table)

    def test_numbered_otherwise(self):
        for numbers in RIGHT:
            for last in LASTS:
                table = nim_table(last, numbers=numbers)
                self.assertEqual(least(nim_table(last, turned=True, numbers=numbers)), table)
        steps, losing = nim_table("loses")
        for order in itertools.permutations(range(1, 6)):
            places = (0,) + order
            other = [None] * 6
            for x, row in enumerate(steps):
                other[places[x]] = tuple(places[y] for y in row)
            renumbered = (tuple(other), tuple(sorted(places[x] for x in losing)))
            self.assertEqual(least(renumbered), (steps, losing))

    def test_with_a_counter_beside(self):
        for numbers in RIGHT[:4]:
            for last in LASTS:
                table = nim_table(last, numbers=numbers)
                for tail, period, counted in ((0, 3, 0), (3, 2, 0), (4, 1, 0), (5, 1, len(numbers) - 1)):
                    for turned in (False, True):
                        other = finer(table, tail, period, counted, turned)
                        self.assertGreater(len(other[0]), len(table[0]))
                        self.assertEqual(least(other), table)

    def test_many_things(self):
        chain = tuple((min(x + 1, 63),) for x in range(64))
        self.assertEqual(least((chain, (63,))), (chain, (63,)))
        self.assertEqual(least((chain, (1,))), (((1,), (2,), (2,)), (1,)))
        back = ((63,),) + tuple((max(x - 1, 1),) for x in range(1, 64))
        self.assertEqual(least((back, (1,))), (chain, (63,)))

    def test_by_name_and_again(self):
        table = counted_table(((2, 3), (0, 2)), ((1, 0),), turned=True)
        before = copy.deepcopy(table)
        told = least(table=table)
        self.assertEqual(least(nim_table("wins")), nim_table("wins"))
        self.assertEqual(least(table), told)
        self.assertEqual(table, before)
        self.assertEqual([type(part) for part in told + told[0]], [tuple] * (2 + len(told[0])))


if __name__ == "__main__":
    unittest.main()
