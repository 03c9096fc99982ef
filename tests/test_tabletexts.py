import unittest

from lastloser.errors import NoTable, NoText
from lastloser.tabletexts import read_table, show_table

from samples import counted_table, nim_table

TEXT = "1 2 loses\n0 3 wins\n3 0 wins\n2 1 loses"
TABLE = (((1, 2), (0, 3), (3, 0), (2, 1)), (0, 3))


class ShowTable(unittest.TestCase):
    def test_rows(self):
        self.assertEqual(show_table(TABLE), TEXT)
        self.assertEqual(show_table(table=(((0,),), ())), "0 wins")
        self.assertEqual(show_table((((0, 0),), (0,))), "0 0 loses")

    def test_without_heaps(self):
        self.assertEqual(show_table((((),), ())), "wins")
        self.assertEqual(show_table((((),), (0,))), "loses")

    def test_numbers_of_two_figures(self):
        steps = tuple((min(x + 1, 11),) for x in range(12))
        right = [f"{min(x + 1, 11)} {'loses' if x == 10 else 'wins'}" for x in range(12)]
        self.assertEqual(show_table((steps, (10,))), "\n".join(right))

    def test_read_back(self):
        tables = [TABLE, (((),), ()), (((),), (0,)), (((0, 0, 0),), ()), counted_table(((7, 13), (0, 1))),
                  counted_table(((2, 3), (0, 2), (2, 1)), losing=((1, 0, 0), (2, 1, 2)), turned=True)]
        for last in ("loses", "wins"):
            tables += [nim_table(last), nim_table(last, turned=True)]
        for table in tables:
            self.assertEqual(read_table(show_table(table)), table)


class ReadTable(unittest.TestCase):
    def look_no_text(self, text, row):
        with self.subTest(text), self.assertRaises(NoText) as caught:
            read_table(text)
        self.assertEqual(caught.exception.row, row)

    def look_no_table(self, text, word, at):
        with self.subTest(text), self.assertRaises(NoTable) as caught:
            read_table(text)
        self.assertEqual((caught.exception.word, caught.exception.at), (word, at))

    def test_let_by(self):
        self.assertEqual(read_table(TEXT), TABLE)
        self.assertEqual(read_table(text="0 wins"), (((0,),), ()))
        self.assertEqual(read_table("1 loses\n1 loses"), (((1,), (1,)), (0, 1)))

    def test_without_heaps(self):
        self.assertEqual(read_table("wins"), (((),), ()))
        self.assertEqual(read_table("loses"), (((),), (0,)))
        self.look_no_table("wins\nloses", "reach", (1,))

    def test_kinds(self):
        steps, losing = read_table(TEXT)
        self.assertEqual((type(steps), type(losing)), (tuple, tuple))
        self.assertEqual({type(row) for row in steps}, {tuple})
        self.assertEqual({type(thing) for row in steps for thing in row}, {int})

    def test_more_rows_than_a_table_has_things(self):
        text = "\n".join([f"{min(x + 1, 99)} wins" for x in range(100)])
        self.assertEqual(read_table(text), (tuple((min(x + 1, 99),) for x in range(100)), ()))

    def test_the_text_without_signs(self):
        self.look_no_text("", 0)

    def test_rows_that_are_none(self):
        rows = TEXT.split("\n")
        others = ("", " ", "1 2", "loses", "1 loses", "1 2 3 loses", "1 2 loses ", " 1 2 loses", "1  2 loses",
                  "1 2  loses", "1 2 loses loses", "1 2 wins loses", "loses 1 2", "1 2 lose", "1 2 Loses", "1 2 won",
                  "01 2 loses", "1 02 loses", "00 2 loses", "+1 2 loses", "-1 2 loses", "1 -0 loses", "1 4 loses",
                  "4 1 loses", "10 1 loses", "1 2_ loses", "1_0 2 loses", "a 1 loses", "1 . loses", "1.0 2 loses",
                  "1,2 loses", "1 2loses", "1\t2 loses", "1 2 loses;", "1 \u0662 loses", "1 \u00b2 loses",
                  "9" * 5000 + " 1 loses", "0" * 5000 + " 1 loses", "1 2 ", "1 2 None", "True 2 loses")
        for row in others:
            for place in range(1, 4):
                self.look_no_text("\n".join(rows[:place] + [row] + rows[place + 1:]), place)

    def test_a_first_row_that_is_none(self):
        for row in ("", " ", "1 2", "1 2 loses ", "01 2 loses", "4 2 loses", "+1 2 loses", "1 2 Wins"):
            self.look_no_text(row + "\n" + "\n".join(TEXT.split("\n")[1:]), 0)

    def test_the_first_row_tells_how_many(self):
        self.look_no_text("1 2 loses\n0 wins\n0 wins", 1)
        self.look_no_text("1 loses\n0 3 wins\n3 0 wins\n2 1 loses", 1)
        self.look_no_text("loses\n0 wins", 1)
        self.look_no_text("0 wins\nwins", 1)

    def test_rows_more_or_fewer(self):
        self.look_no_text(TEXT + "\n", 4)
        self.look_no_text("\n" + TEXT, 0)
        self.look_no_text(TEXT.replace("\n", "\n\n", 1), 1)
        self.look_no_text("\n".join(TEXT.split("\n")[:3]), 1)
        self.look_no_text("\n".join(TEXT.split("\n")[1:]), 0)
        self.look_no_table(TEXT + "\n4 4 wins", "reach", (4,))

    def test_numbers_are_held_against_all_rows(self):
        self.look_no_text("1 wins", 0)
        self.look_no_text("1 wins\n", 1)
        self.look_no_text("2 wins\n", 0)
        self.assertEqual(read_table("1 wins\n0 wins"), (((1,), (0,)), ()))

    def test_the_first_row_that_is_none(self):
        self.look_no_text("1 2 loses\n0 9 wins\n\n2 1", 1)
        self.look_no_text("1 2 loses\n0 3 wins\n\n2 9 loses", 2)

    def test_ends_of_rows_are_line_feeds_alone(self):
        self.look_no_text(TEXT.replace("\n", "\r\n"), 0)
        self.look_no_text(TEXT.replace("\n", ";"), 0)

    def test_no_tables(self):
        self.look_no_table("1 2 wins\n2 1 wins\n0 0 loses", "commute", (0, 0, 1))
        self.look_no_table("1 1 wins\n2 2 wins\n3 4 wins\n3 3 wins\n4 3 wins", "commute", (1, 0, 1))
        self.look_no_table("0 wins\n0 loses", "reach", (1,))
        self.look_no_table("1 wins\n0 wins\n3 wins\n2 wins", "reach", (2,))
        self.look_no_table("0 0 wins\n2 3 wins\n2 2 wins\n3 3 wins", "commute", (1, 0, 1))

    def test_rows_are_looked_at_ahead_of_the_table(self):
        self.look_no_text("1 2 wins\n2 1 wins\n0 0 none", 2)
        self.look_no_text("0 wins\n2 wins", 1)


if __name__ == "__main__":
    unittest.main()
