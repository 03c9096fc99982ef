import unittest

from lastloser.errors import HeapError, NoTable
from lastloser.tables import look_table

from samples import counted_table, nim_table

TWO = ((1, 2), (0, 3), (3, 0), (2, 1))


class LookTable(unittest.TestCase):
    def look_refused(self, table, word, at):
        with self.subTest(table), self.assertRaises(NoTable) as caught:
            look_table(table)
        self.assertEqual((caught.exception.word, caught.exception.at), (word, at))
        self.assertIsInstance(caught.exception, HeapError)

    def look_no_form(self, table):
        self.look_refused(table, "form", ())

    def test_let_by(self):
        for last in ("loses", "wins"):
            for turned in (False, True):
                self.assertIs(look_table(nim_table(last, turned)), True)
        for losing in ((), (0,), (3,), (0, 1, 2, 3), (1, 3)):
            self.assertIs(look_table((TWO, losing)), True)
        self.assertIs(look_table(table=(TWO, (0,))), True)

    def test_without_heaps(self):
        self.assertIs(look_table((((),), ())), True)
        self.assertIs(look_table((((),), (0,))), True)
        self.look_refused((((), ()), ()), "reach", (1,))

    def test_one_thing_alone(self):
        for heaps in range(7):
            self.assertIs(look_table((((0,) * heaps,), ())), True)
            self.assertIs(look_table((((0,) * heaps,), (0,))), True)

    def test_as_many_things_as_may_be_and_more(self):
        for size in (30, 31, 100):
            chain = tuple([(min(x + 1, size - 1),) for x in range(size)])
            self.assertIs(look_table((chain, (size - 1,))), True)
        self.assertIs(look_table(counted_table(((2, 3), (1, 2), (0, 2)))), True)

    def test_no_thing(self):
        self.look_no_form(((), ()))
        self.look_no_form(((), (0,)))

    def test_other_than_two_parts(self):
        for table in ((), (TWO,), (TWO, (), ()), TWO, ((TWO, (0,)),), None, "", "ab", 0, 7, (None, None), ("", ""),
                      ("a", ()), (0, ()), (None, ()), (TWO, None), (TWO, ""), (TWO, "0"), (TWO, 0), ((), (), ())):
            self.look_no_form(table)

    def test_rows_that_are_none(self):
        for row in (None, "", "00", "ab", 0, 3, (0,), (0, 0, 0), (), ((0, 0),), ((0,), (0,)), (0, ()), ("0", "0"),
                    (None, 0), (0, None), (0, ""), (0, 4), (4, 0), (0, -1), (-1, 0), (0, True), (False, 0),
                    (10 ** 30, 0)):
            for place in range(4):
                self.look_no_form((TWO[:place] + (row,) + TWO[place + 1:], ()))

    def test_rows_of_unlike_lengths(self):
        self.look_no_form((((), (0,)), ()))
        self.look_no_form((((0,), ()), ()))
        self.look_no_form((((1,), (0, 0)), ()))

    def test_a_tuple_more_around(self):
        self.look_no_form(((TWO,), ()))
        self.look_no_form((TWO, ((),)))
        self.look_no_form((TWO, ((0,),)))

    def test_losing_ones(self):
        for losing in ((4,), (-1,), (0, 0), (0, 1, 1), (1, 0), (3, 2, 1, 0), (0, 2, 1), (0, 1, 2, 3, 4), (None,),
                       ("0",), "", "0", (True,), (False,), (0, True), ((),), (0, (1,)), 0, None, (10 ** 30,)):
            self.look_no_form((TWO, losing))

    def test_commute(self):
        self.look_refused((((1, 2), (2, 1), (0, 0)), ()), "commute", (0, 0, 1))
        self.look_refused((((0, 0, 1), (1, 2, 2), (2, 2, 1)), ()), "commute", (0, 1, 2))
        self.look_refused((((1, 1, 2), (1, 1, 1), (2, 2, 2)), ()), "commute", (0, 0, 2))
        self.look_refused((((1, 1), (2, 2), (3, 4), (3, 3), (4, 3)), ()), "commute", (1, 0, 1))

    def test_commute_is_looked_at_where_no_sum_comes(self):
        steps = ((0, 0), (2, 3), (2, 2), (3, 3))
        self.look_refused((steps, ()), "commute", (1, 0, 1))

    def test_reach(self):
        self.look_refused((((0,), (0,)), ()), "reach", (1,))
        self.look_refused((((0,), (1,), (2,)), ()), "reach", (1,))
        self.look_refused((((2,), (0,), (2,)), (1,)), "reach", (1,))
        self.look_refused((((1,), (0,), (3,), (2,)), ()), "reach", (2,))
        self.look_refused((((3, 0), (0, 1), (0, 2), (3, 3)), ()), "reach", (1,))

    def test_thing_0_is_reached_by_the_sum_without_heaps(self):
        self.assertIs(look_table((((1,), (1,)), ())), True)

    def test_reached_by_several_heaps_alone(self):
        self.assertIs(look_table((((1, 2), (1, 3), (3, 2), (3, 3)), (3,))), True)
        self.assertIs(look_table((((0, 1), (1, 2), (2, 2)), ())), True)

    def test_several_at_once(self):
        crossed = ((1, 2), (2, 1), (0, 0), (3, 3))
        self.look_refused((crossed, ()), "commute", (0, 0, 1))
        self.look_no_form((crossed, (4,)))
        self.look_no_form((crossed, (1, 1)))
        self.look_no_form((crossed[:3] + ((3, 4),), ()))
        self.look_no_form((((0,), (0,)), (2,)))
        self.look_refused((((0, 0), (2, 3), (2, 2), (3, 3), (5, 3), (5, 4)), ()), "commute", (1, 0, 1))

    def test_the_first_as_python_sorts(self):
        for steps in ([(1, 2, 0), (0, 3, 1), (3, 0, 2), (2, 1, 3)], [(1, 2, 3), (0, 3, 2), (3, 0, 1), (2, 1, 0)]):
            self.assertIs(look_table((tuple(steps), ())), True)
            for x in range(4):
                for heap in range(3):
                    for other in range(4):
                        turned = list(steps)
                        turned[x] = turned[x][:heap] + (other,) + turned[x][heap + 1:]
                        self.look_as_sorted(turned)

    def look_as_sorted(self, steps):
        places = sorted([(x, h, k) for x in range(4) for h in range(3) for k in range(3)
                         if steps[steps[x][h]][k] != steps[steps[x][k]][h]])
        if places:
            self.look_refused((tuple(steps), ()), "commute", places[0])

    def test_asked_again_it_tells_the_same(self):
        for again in range(3):
            self.assertIs(look_table((TWO, (0,))), True)
            self.look_refused((((0,), (1,), (2,)), ()), "reach", (1,))


if __name__ == "__main__":
    unittest.main()
