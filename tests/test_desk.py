import unittest

from lastloser.desk import answered
from lastloser.errors import HeapError, NoName, NoRow, NoTable, NoText, TooMany, Twice
from lastloser.made import made
from lastloser.numbers import numbers
from lastloser.reader import read
from lastloser.sums import moves
from lastloser.sumtexts import show_sum
from lastloser.tabletexts import read_table, show_table
from lastloser.writer import shown

from samples import (ENDLESS, EXACTLY_400, EXACTLY_401, FOURTEEN, GREAT, LASTS, MANY_PAIRS, STILL, TWELVE, all_sums,
                     nim_table, plain_loser, single_losing, single_moves, some_games, together)

RULES = "row a to 3\ntake 1 none one\ntake 2 none one\ntake 3 none one"
SMALL = "row a to 2\ntake 1 none one\ntake 2 none"
TEXTS = [RULES, SMALL, "", shown(STILL), "heap e :\nheap f :"] + [shown(game) for game in some_games(3, 97)]
SUM_ROWS = ("who loses {}", "who wins {}", "move loses {}", "move wins {}", "part loses {} | .", "part wins . | {}")


def inline(table):
    return show_table(table).replace("\n", ";")


class Desk(unittest.TestCase):
    def look_refused(self, text, asked, sort, **fields):
        with self.subTest(text=text, asked=asked), self.assertRaises(sort) as caught:
            answered(text, asked)
        self.assertIs(type(caught.exception), sort)
        self.assertEqual(vars(caught.exception), fields)
        self.assertIsInstance(caught.exception, HeapError)

    def small(self, text, most=3):
        game = read(text)
        return game, [(counts, show_sum(game, counts)) for counts in all_sums(len(game), most)]


class Answers(Desk):
    def test_who(self):
        for text in TEXTS:
            game, sums = self.small(text)
            for last in LASTS:
                lost = plain_loser(game, last)
                for counts, written in sums:
                    right = "loses" if lost(counts) else "wins"
                    self.assertEqual(answered(text, f"who {last} {written}"), right)

    def test_who_of_an_end(self):
        for text in ("", SMALL, "heap e :"):
            self.assertEqual(answered(text, "who loses ."), "wins")
            self.assertEqual(answered(text, "who wins ."), "loses")
        self.assertEqual(answered("heap e :", f"who loses {GREAT}*e"), "wins")

    def test_names_in_any_order_and_very_many(self):
        self.assertEqual(answered(RULES, "who wins a3 a1 a2"), "loses")
        self.assertEqual(answered(RULES, f"who wins {GREAT}*a3 a1 {GREAT}*a2"), "wins")
        self.assertEqual(answered(RULES, f"who loses {GREAT}*a1"), "wins")
        self.assertEqual(answered(RULES, f"who loses {GREAT - 1}*a1"), "loses")
        self.assertEqual(answered(RULES, f"who loses {GREAT - 1}*a3 {GREAT - 1}*a2 {GREAT - 1}*a1"), "loses")
        self.assertEqual(answered(RULES, f"move wins {GREAT}*a3 a1 {GREAT}*a2"), "a1 to .")
        self.assertEqual(answered(RULES, f"move loses a3 {GREAT}*a1"), "a3 to a1")
        self.assertEqual(answered(RULES, f"part wins {GREAT}*a3 a1 | a3 a2"), "alike")
        self.assertEqual(answered(RULES, f"part loses {GREAT}*a3 a1 | a3 a2"), "alike")
        self.assertEqual(answered(RULES, f"part loses {GREAT}*a3 a1 | a1"), ".")

    def test_move(self):
        for text in TEXTS:
            game, sums = self.small(text)
            for last in LASTS:
                lost = plain_loser(game, last)
                for counts, written in sums:
                    good = [(h, k) for h, k, later in moves(game, counts) if lost(later)]
                    right = "none"
                    if good:
                        heap = game[good[0][0]]
                        right = f"{heap[0]} to {show_sum(game, heap[1][good[0][1]])}"
                    self.assertEqual(answered(text, f"move {last} {written}"), right)

    def test_known_moves(self):
        self.assertEqual(answered(RULES, "move loses a3"), "a3 to a1")
        self.assertEqual(answered(RULES, "move wins a3"), "a3 to .")
        self.assertEqual(answered(RULES, "move loses a1"), "none")
        self.assertEqual(answered(RULES, "move wins ."), "none")
        self.assertEqual(answered("", "move loses ."), "none")
        self.assertEqual(answered("heap a : .\nheap b : a | 2*a", "move wins b"), "b to 2*a")
        self.assertEqual(answered("heap a : .\nheap c :\nheap b : 2*c | a c", "move loses b"), "b to a c")

    def test_table(self):
        self.assertEqual(answered("", "table loses"), "wins")
        self.assertEqual(answered("", "table wins"), "loses")
        self.assertEqual(answered("heap e :\nheap f :", "table wins"), "0 0 loses")
        self.assertEqual(answered(SMALL, "table wins"), "1 2 loses;0 3 wins;3 0 wins;2 1 wins")
        self.assertEqual(answered(SMALL, "table loses"), "1 2 wins;0 3 loses;3 4 wins;2 5 wins;5 2 loses;4 3 wins")
        for text in TEXTS:
            for last in LASTS:
                self.assertEqual(answered(text, f"table {last}"), inline(made(read(text), last, 8)[1]))

    def test_part(self):
        for text in TEXTS[:8]:
            game, sums = self.small(text, 2)
            thirds = all_sums(len(game), 4)
            for last in LASTS:
                lost = plain_loser(game, last)
                for one, shown_one in sums:
                    for other, shown_other in sums:
                        found = [third for third in thirds
                                 if lost(together(one, third)) != lost(together(other, third))]
                        right = show_sum(game, found[0]) if found else "alike"
                        self.assertEqual(answered(text, f"part {last} {shown_one} | {shown_other}"), right)

    def test_part_known(self):
        self.assertEqual(answered("", "part wins . | ."), "alike")
        self.assertEqual(answered(SMALL, "part loses a1 | 3*a1"), "alike")
        self.assertEqual(answered(SMALL, "part loses . | a1"), ".")
        self.assertEqual(answered(SMALL, "part loses . | 2*a2"), ".")
        self.assertEqual(answered(SMALL, "part loses a1 | 2*a2 a1"), ".")
        self.assertEqual(answered(SMALL, "part loses a1 2*a2 | ."), "2*a2")
        self.assertEqual(answered(RULES, "part loses a2 | a3"), "a2")

    def test_beside(self):
        self.assertEqual(answered("", "beside"), "")
        self.assertEqual(answered("heap e :\nheap f :", "beside"), "e never f never")
        self.assertEqual(answered(SMALL, "beside"), "a1 never a2 1")
        self.assertEqual(answered(RULES, "beside"), "a1 never a2 1 a3 1")
        self.assertEqual(answered("heap a : .\nheap b : a | 2*a", "beside"), "a never b 1")

    def test_beside_by_plain_walks(self):
        for game in some_games(2, 1) + some_games(3, 61):
            lost = [plain_loser(game, last) for last in LASTS]
            apart = [counts for counts in all_sums(len(game), 6) if lost[0](counts) != lost[1](counts)]
            right = []
            for heap, (name, options) in enumerate(game):
                highest = max(counts[heap] for counts in apart)
                right.append(f"{name} never" if highest > 3 else f"{name} {highest + 1}")
            self.assertEqual(answered(shown(game), "beside"), " ".join(right))

    def test_numbers(self):
        self.assertEqual(answered("", "numbers"), "")
        self.assertEqual(answered("heap e :\nheap f :", "numbers"), "e 0 f 0")
        self.assertEqual(answered(RULES, "numbers"), "a1 1 a2 2 a3 3")
        for text in TEXTS + [shown(ENDLESS), shown(MANY_PAIRS), shown(FOURTEEN)]:
            game = read(text)
            right = " ".join(f"{heap[0]} {number}" for heap, number in zip(game, numbers(game)))
            self.assertEqual(answered(text, "numbers"), right)

    def test_look(self):
        for last in LASTS:
            self.assertEqual(answered(RULES, f"look {last} {inline(nim_table(last))}"), "right")
            self.assertEqual(answered(RULES, f"look {last} {inline(nim_table(last, turned=True))}"), "right")
        self.assertEqual(answered(RULES, f"look wins {inline(nim_table('loses'))}"), "wrong .")
        self.assertEqual(answered("", "look loses wins"), "right")
        self.assertEqual(answered("", "look loses loses"), "wrong .")
        self.assertEqual(answered("", "look wins loses"), "right")
        self.assertEqual(answered(SMALL, "look wins 0 0 loses"), "wrong a1")
        self.assertEqual(answered(SMALL, "look wins 1 2 loses;0 3 wins;3 0 loses;2 1 wins"), "wrong a2")
        self.assertEqual(answered(SMALL, "look wins 1 2 loses;0 3 wins;3 0 wins;2 1 loses"), "wrong a1 a2")
        self.assertEqual(answered(SMALL, "look loses 1 2 wins;0 3 loses;3 0 wins;2 1 wins"), "wrong 2*a2")

    def test_look_needs_no_table_of_few_things(self):
        for game in (TWELVE, FOURTEEN):
            table = made(game, "loses", 20)[1]
            self.assertEqual(answered(shown(game), f"look loses {inline(table)}"), "right")
            self.assertEqual(answered(shown(game), f"look wins {inline(table)}"), "wrong .")
            self.assertEqual(answered(shown(game), "look loses 0 0 0 0 wins"), "wrong a")

    def test_look_at_many_pairs(self):
        game, steps = single_moves(*EXACTLY_400)
        table = (steps, single_losing(steps, "wins"))
        self.assertEqual(answered(shown(game), f"look wins {inline(table)}"), "right")

    def test_open(self):
        rows = ["who loses {}", "move loses {}", "part loses {} | ."]
        for game in (TWELVE, FOURTEEN, ENDLESS, read("row a to 4\ntake 1 none one\ntake 2 none one\ntake 3 none one\n"
                                                     "take 4 none")):
            text = shown(game)
            for row in rows:
                for written in (".", game[0][0], f"{GREAT}*{game[2][0]} {game[1][0]}"):
                    self.assertEqual(answered(text, row.format(written)), "open")
            self.assertEqual(answered(text, "table loses"), "open")
            self.assertEqual(answered(text, "beside"), "open")
            self.assertEqual(answered(text, "who wins ."), "loses")
            self.assertNotEqual(answered(text, "table wins"), "open")
            self.assertNotEqual(answered(text, "numbers"), "open")

    def test_open_where_the_last_move_wins(self):
        text = "\n".join(shown(MANY_PAIRS).split("\n")[:4])
        for row in SUM_ROWS + ("table loses", "table wins", "beside"):
            self.assertEqual(answered(text, row.format("a d")), "open")
        self.assertEqual(answered(text, "numbers"), "a 1 b 2 c 4 d 8")

    def test_just_8_things(self):
        text = "\n".join(shown(MANY_PAIRS).split("\n")[:3])
        self.assertEqual(answered(text, "table wins"), inline(nim_table("wins", numbers=(1, 2, 4))))
        self.assertEqual(answered(text, "table loses"), "open")
        self.assertEqual(answered(text, "beside"), "open")
        eight = "heap a : .\nheap b : . | a\nheap c : b\nheap d : b | c | 2*a | a b"
        self.assertEqual(answered(eight, "table loses").count(";"), 7)
        self.assertEqual(answered(eight, "who loses a"), "loses")

    def test_by_name_and_again(self):
        for again in range(2):
            self.assertEqual(answered(text=SMALL, row="who loses a1"), "loses")
            self.assertEqual(answered(row="who wins a1", text=SMALL), "wins")
            self.assertEqual(answered("heap a1 :", "who wins a1"), "loses")


class Refusals(Desk):
    def test_the_games_text_first(self):
        for row in ("who loses a1", "", "nonsense", None, "who loses zz", "look loses", "numbers", "a\nb"):
            self.look_refused("row a to", row, NoText, row=0)
            self.look_refused("row a to 2\nheap a1 : a1 a1", row, Twice, name="a1")
            self.look_refused("heap b : c", row, NoName, name="c")
            self.look_refused("row a to 9\nrow b to 9", row, TooMany)
        self.look_refused(SMALL + "\n", "numbers", NoText, row=3)

    def test_what_is_no_text(self):
        for row in (None, 0, 7, (), ("numbers",), ("who", "loses", "."), [], ["beside"], {}):
            self.look_refused(SMALL, row, NoRow)

    def test_no_row(self):
        rows = ("", " ", "who", "move", "table", "part", "look", "wins", "loses", "a1", "which loses a1",
                "whom loses a1", "who loses", "move wins", "who a1", "who a1 loses", "loses who a1", "who lose a1",
                "who win a1",
                "table loses wins", "table loses a1", "table a1", "beside loses", "beside a1", "numbers wins",
                "numbers a1", "part loses", "part loses a1", "part loses a1 a2", "part loses |", "part loses a1 |",
                "part loses | a1", "part loses a1 | a1 | a2", "part loses a1 | | a2", "part loses a1|a2",
                "part loses a1 |a2", "part loses a1| a2", "part loses || a1", "part a1 | a2", "part | a1 | a2",
                "look loses", "look 0 0 wins", "look 0 0 loses", "besides", "number", "numbers;", "who;loses;a1")
        for row in rows:
            self.look_refused(SMALL, row, NoRow)
            self.look_refused(shown(FOURTEEN), row, NoRow)
            self.look_refused("", row, NoRow)

    def test_great_letters(self):
        for row in ("Who loses a1", "WHO loses a1", "who Loses a1", "who LOSES a1", "Table wins", "table Wins",
                    "BESIDE", "Numbers", "Part loses a1 | a2", "Look wins 0 0 loses", "look Wins 0 0 loses"):
            self.look_refused(SMALL, row, NoRow)
        self.look_refused(SMALL, "who loses A1", NoText, row=0)
        self.look_refused(SMALL, "look wins 0 0 Loses", NoText, row=0)

    def test_blanks_too_many(self):
        for row in ("who loses a1", "move wins a1 a2", "table loses", "part loses a1 | a2", "beside", "numbers"):
            for wrong in (" " + row, row + " ", "  " + row, row + "  ", " " + row + " "):
                self.look_refused(SMALL, wrong, NoRow)
            for place in [place for place, sign in enumerate(row) if sign == " "]:
                self.look_refused(SMALL, row[:place] + " " + row[place:], NoRow)
        for row in (" look wins 0 0 loses", "look  wins 0 0 loses", "look wins "):
            self.look_refused(SMALL, row, NoRow)

    def test_a_line_feed(self):
        for row in ("\n", "who loses a1\n", "who loses\na1", "\nbeside", "numbers\n", "part loses a1 |\na2",
                    "look wins 1 2 loses\n0 3 wins;3 0 wins;2 1 wins", "look wins 0 0 loses\n", "table\nloses"):
            self.look_refused(SMALL, row, NoRow)

    def test_sums_as_read(self):
        for row in SUM_ROWS:
            for text in (SMALL, shown(FOURTEEN)):
                name = read(text)[0][0]
                self.look_refused(text, row.format("1*" + name), NoText, row=0)
                self.look_refused(text, row.format(f"{GREAT + 1}*{name}"), NoText, row=0)
                self.look_refused(text, row.format("x1;"), NoText, row=0)
                self.look_refused(text, row.format(". ."), NoText, row=0)
                self.look_refused(text, row.format(f"{name} zz {name}"), Twice, name=name)
                self.look_refused(text, row.format(f"zz {name} yy"), NoName, name="zz")
        for row in ("who loses |", "who loses a1 | a2", "move wins a1 |", "who loses ;", "move loses loses to"):
            self.look_refused(SMALL, row, NoText, row=0)
        self.look_refused("", "who loses a", NoName, name="a")

    def test_sums_from_the_left(self):
        self.look_refused(SMALL, "part loses b | 1*a", NoName, name="b")
        self.look_refused(SMALL, "part loses a1 a1 | b", Twice, name="a1")
        self.look_refused(SMALL, "part loses 1*a | b", NoText, row=0)
        self.look_refused(SMALL, "part loses a1 | b a2 c", NoName, name="b")
        self.look_refused(SMALL, "part loses a1 | a2 b a2", Twice, name="a2")
        self.look_refused(SMALL, "part loses a1 | 1*a", NoText, row=0)

    def test_tables_as_read(self):
        for row, at in (("look wins 0 0", 0), ("look wins 0 0 loses;", 1), ("look wins ;", 0), ("look wins  ", 0),
                        ("look wins  0 0 loses", 0), ("look wins 0 0 loses ", 0), ("look wins 0  0 loses", 0),
                        ("look wins 1 1 loses;1 1", 1), ("look wins 1 1 loses; 1 1 wins", 1),
                        ("look wins 1 1 loses ;1 1 wins", 0), ("look wins 1 loses;1 1 wins", 1),
                        ("look wins 1 1 loses", 0), ("look wins 0 00 loses", 0), ("look wins wins wins", 0),
                        ("look wins 0 0 loses;;0 0 wins", 1), ("look wins 1 1 loses;2 1 wins", 1)):
            self.look_refused(SMALL, row, NoText, row=at)
        self.look_refused(SMALL, "look wins 1 2 loses;1 1 wins;2 2 wins", NoTable, word="commute", at=(0, 0, 1))
        self.look_refused(SMALL, "look wins 0 0 loses;1 1 wins", NoTable, word="reach", at=(1,))
        self.look_refused("", "look wins loses;loses", NoTable, word="reach", at=(1,))

    def test_another_number_of_heaps(self):
        self.look_refused(SMALL, "look wins 0 loses", NoRow)
        self.look_refused(SMALL, "look wins 0 0 0 loses", NoRow)
        self.look_refused(SMALL, "look wins loses", NoRow)
        self.look_refused("", "look wins 0 loses", NoRow)
        # What is amiss with the table itself comes ahead of it, what its pairs tell behind.
        self.look_refused(SMALL, "look wins 1 loses;0", NoText, row=1)
        self.look_refused(SMALL, "look wins 0 loses;1 wins", NoTable, word="reach", at=(1,))
        self.look_refused(SMALL, "look wins " + inline(nim_table("loses")), NoRow)

    def test_too_many(self):
        game, steps = single_moves(*EXACTLY_401)
        table = (steps, single_losing(steps, "wins"))
        self.look_refused(shown(game), f"look wins {inline(table)}", TooMany)
        self.assertEqual(answered(shown(game), f"look loses {inline(table)}"), "wrong .")
        self.look_refused("heap x :\n" + shown(game), f"look wins {inline(table)}", NoRow)
        table = nim_table("wins", numbers=(1, 2, 4, 8) + (0,) * 8)
        self.look_refused(shown(MANY_PAIRS), f"look wins {inline(table)}", TooMany)

    def test_told_tables_are_read_again(self):
        for text in TEXTS:
            for last in LASTS:
                told = answered(text, f"table {last}")
                self.assertEqual(read_table(told.replace(";", "\n")), made(read(text), last, 8)[1])
                self.assertEqual(answered(text, f"look {last} {told}"), "right")


if __name__ == "__main__":
    unittest.main()
