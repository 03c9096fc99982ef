import itertools
import unittest

from lastloser.sums import added, in_order, longest, moves, nothing

NIM = (
    ("a1", ((0, 0, 0),)),
    ("a2", ((0, 0, 0), (1, 0, 0))),
    ("a3", ((0, 0, 0), (1, 0, 0), (0, 1, 0), (2, 0, 0))),
)
ENDED = (("a", ()), ("b", ((0, 0), (3, 0))))
GREAT = 10 ** 30


class Nothing(unittest.TestCase):
    def test_nothing(self):
        self.assertEqual(nothing(()), ())
        self.assertEqual(nothing(NIM), (0, 0, 0))
        self.assertEqual(nothing(game=ENDED), (0, 0))


class Added(unittest.TestCase):
    def test_place_by_place(self):
        self.assertEqual(added((1, 2, 0), (0, 5, 7)), (1, 7, 7))
        self.assertEqual(added((), ()), ())
        self.assertEqual(added((0,), (0,)), (0,))

    def test_great_ones(self):
        self.assertEqual(added((GREAT, 1), (GREAT, GREAT)), (2 * GREAT, GREAT + 1))

    def test_by_name_and_kind(self):
        told = added(one=(1,), other=(2,))
        self.assertEqual(told, (3,))
        self.assertIsInstance(told, tuple)


class InOrder(unittest.TestCase):
    def test_fewer_heaps_are_ahead(self):
        self.assertEqual(in_order([(0, 2), (1, 0), (0, 0), (3, 0)]), [(0, 0), (1, 0), (0, 2), (3, 0)])

    def test_more_of_an_early_heap_is_ahead(self):
        sums = [counts for counts in itertools.product(range(3), repeat=3) if sum(counts) == 2]
        right = [(2, 0, 0), (1, 1, 0), (1, 0, 1), (0, 2, 0), (0, 1, 1), (0, 0, 2)]
        for some in itertools.permutations(sums):
            self.assertEqual(in_order(list(some)), right)

    def test_each_as_often_as_it_stands_there(self):
        self.assertEqual(in_order([(1,), (0,), (1,), (0,), (1,)]), [(0,), (0,), (1,), (1,), (1,)])
        self.assertEqual(in_order([(), ()]), [(), ()])
        self.assertEqual(in_order([]), [])

    def test_great_ones(self):
        sums = [(GREAT, 0), (GREAT - 1, 1), (0, GREAT), (GREAT - 1, 0), (1, GREAT - 1)]
        right = [(GREAT - 1, 0), (GREAT, 0), (GREAT - 1, 1), (1, GREAT - 1), (0, GREAT)]
        self.assertEqual(in_order(sums), right)

    def test_the_list_handed_in_stays_and_the_told_one_is_new(self):
        sums = [(1,), (0,)]
        told = in_order(sums=sums)
        told.append((7,))
        self.assertEqual(sums, [(1,), (0,)])
        self.assertEqual(in_order(sums), [(0,), (1,)])
        already = [(0,), (1,)]
        self.assertIsNot(in_order(already), already)


class Moves(unittest.TestCase):
    def test_without_moves(self):
        self.assertEqual(moves((), ()), [])
        self.assertEqual(moves(NIM, (0, 0, 0)), [])
        self.assertEqual(moves(ENDED, (5, 0)), [])

    def test_heaps_and_options_in_order(self):
        right = [
            (0, 0, (1, 0, 1)),
            (2, 0, (2, 0, 0)),
            (2, 1, (3, 0, 0)),
            (2, 2, (2, 1, 0)),
            (2, 3, (4, 0, 0)),
        ]
        self.assertEqual(moves(NIM, (2, 0, 1)), right)

    def test_moves_to_one_sum_are_told_each(self):
        game = (("a", ((0, 0),)), ("b", ((0, 0),)))
        self.assertEqual(moves(game, (1, 1)), [(0, 0, (0, 1)), (1, 0, (1, 0))])
        twin = (("a", ((0, 0, 0),)), ("b", ((0, 0, 0), (1, 0, 0))), ("c", ((0, 1, 0),)))
        self.assertEqual(moves(twin, (1, 1, 0)), [(0, 0, (0, 1, 0)), (1, 0, (1, 0, 0)), (1, 1, (2, 0, 0))])

    def test_of_many_heaps_one_is_taken(self):
        self.assertEqual(moves(ENDED, (GREAT, GREAT)),
                         [(1, 0, (GREAT, GREAT - 1)), (1, 1, (GREAT + 3, GREAT - 1))])

    def test_what_was_told_may_be_handed_on(self):
        later = moves(ENDED, (GREAT, 2))[1][2]
        self.assertEqual(moves(ENDED, later), [(1, 0, (GREAT + 3, 0)), (1, 1, (GREAT + 6, 0))])

    def test_told_lists_are_new_ones(self):
        told = moves(game=NIM, counts=(1, 0, 0))
        told.append("other")
        self.assertEqual(moves(NIM, (1, 0, 0)), [(0, 0, (0, 0, 0))])


class Longest(unittest.TestCase):
    def test_ends(self):
        self.assertEqual(longest((), ()), 0)
        self.assertEqual(longest(NIM, (0, 0, 0)), 0)
        self.assertEqual(longest(ENDED, (GREAT, 0)), 0)

    def test_of_one_heap(self):
        self.assertEqual([longest(NIM, counts) for counts in ((1, 0, 0), (0, 1, 0), (0, 0, 1))], [1, 2, 3])
        self.assertEqual(longest(ENDED, (0, 1)), 1)

    def test_the_greatest_option_counts_not_the_last(self):
        game = (
            ("a", ((0, 0, 0, 0),)),
            ("b", ((1, 0, 0, 0),)),
            ("e", ()),
            ("c", ((0, 1, 0, 0), (0, 0, 4, 0))),
        )
        self.assertEqual(longest(game, (0, 0, 0, 1)), 3)

    def test_of_sums_they_are_added(self):
        self.assertEqual(longest(NIM, (5, 7, 11)), 5 + 14 + 33)
        self.assertEqual(longest(game=NIM, counts=(GREAT, GREAT, GREAT)), 6 * GREAT)

    def test_options_of_many_heaps(self):
        game = (("a", ((0, 0, 0),)), ("b", ((GREAT, 0, 0),)), ("c", ((0, 0, 0), (0, GREAT, 0))))
        self.assertEqual(longest(game, (0, 0, 1)), 1 + GREAT * (1 + GREAT))

    def test_it_is_the_longest_of_all_plays(self):
        def plainly(game, counts):
            return max([1 + plainly(game, later) for h, k, later in moves(game, counts)], default=0)

        for counts in itertools.product(range(3), repeat=3):
            self.assertEqual(longest(NIM, counts), plainly(NIM, counts))


if __name__ == "__main__":
    unittest.main()
