import itertools
import unittest

from lastloser.errors import HeapError, NoName, NoText, TooMany, Twice
from lastloser.games import look_game
from lastloser.reader import read
from lastloser.writer import shown

TAKEN = ("row", "to", "take", "none", "one", "two", "as", "heap")


class Rules(unittest.TestCase):
    def look_shown(self, text, *rows):
        game = read(text)
        self.assertIs(look_game(game), True)
        self.assertEqual(shown(game), "\n".join(rows))

    def test_the_text_without_signs(self):
        self.assertEqual(read(""), ())

    def test_by_name_and_in_kinds(self):
        self.assertEqual(read(text="row a to 2\ntake 1 none one"), (("a1", ((0, 0),)), ("a2", ((1, 0),))))

    def test_a_rule_without_takes(self):
        self.assertEqual(read("row a to 1"), (("a1", ()),))
        self.look_shown("row a to 3", "heap a1 :", "heap a2 :", "heap a3 :")
        self.look_shown("row ab to 9", *[f"heap ab{n} :" for n in range(1, 10)])

    def test_none(self):
        self.look_shown("row a to 3\ntake 2 none", "heap a1 :", "heap a2 : .", "heap a3 :")
        self.look_shown("row a to 3\ntake 4 none", "heap a1 :", "heap a2 :", "heap a3 :")

    def test_one(self):
        self.look_shown("row a to 3\ntake 1 one", "heap a1 :", "heap a2 : a1", "heap a3 : a2")
        self.look_shown("row a to 4\ntake 2 one", "heap a1 :", "heap a2 :", "heap a3 : a1", "heap a4 : a2")

    def test_two(self):
        self.look_shown("row a to 7\ntake 1 two", "heap a1 :", "heap a2 :", "heap a3 : 2*a1", "heap a4 : a1 a2",
                        "heap a5 : a1 a3 | 2*a2", "heap a6 : a1 a4 | a2 a3", "heap a7 : a1 a5 | a2 a4 | 2*a3")

    def test_all_ways(self):
        self.look_shown("row a to 4\ntake 1 none one two", "heap a1 : .", "heap a2 : a1", "heap a3 : a2 | 2*a1",
                        "heap a4 : a3 | a1 a2")

    def test_some_ways(self):
        self.look_shown("row a to 3\ntake 1 none two", "heap a1 : .", "heap a2 :", "heap a3 : 2*a1")
        self.look_shown("row a to 3\ntake 1 one two", "heap a1 :", "heap a2 : a1", "heap a3 : a2 | 2*a1")

    def test_several_takes_each_option_once_in_order(self):
        self.look_shown("row a to 3\ntake 3 none one\ntake 2 none one\ntake 1 none one",
                        "heap a1 : .", "heap a2 : . | a1", "heap a3 : . | a1 | a2")
        self.look_shown("row a to 3\ntake 1 one\ntake 1 none one two\ntake 1 one as a",
                        "heap a1 : .", "heap a2 : a1", "heap a3 : a2 | 2*a1")

    def test_as_a_rule_told_ahead_or_behind(self):
        self.look_shown("row a to 2\nrow b to 2\ntake 1 one as a", "heap a1 :", "heap b1 :", "heap a2 :", "heap b2 : a1")
        self.look_shown("row a to 2\ntake 1 one as b\nrow b to 2", "heap a1 :", "heap b1 :", "heap a2 : b1", "heap b2 :")
        self.look_shown("row a to 2\ntake 1 none one as a", "heap a1 : .", "heap a2 : a1")

    def test_as_with_none_and_two(self):
        self.look_shown("row a to 1\nrow b to 3\ntake 1 none two as a",
                        "heap a1 :", "heap b1 : .", "heap b2 :", "heap b3 : 2*a1")

    def test_as_for_its_own_take_alone(self):
        self.look_shown("row a to 2\nrow b to 2\ntake 1 one as a\ntake 1 one",
                        "heap a1 :", "heap b1 :", "heap a2 :", "heap b2 : a1 | b1")

    def test_heaps_that_are_not_there(self):
        self.look_shown("row a to 1\nrow b to 4\ntake 1 one two as a",
                        "heap a1 :", "heap b1 :", "heap b2 : a1", "heap b3 : 2*a1", "heap b4 :")
        self.look_shown("row a to 2\nrow b to 5\ntake 1 two as a",
                        "heap a1 :", "heap b1 :", "heap a2 :", "heap b2 :", "heap b3 : 2*a1", "heap b4 : a1 a2",
                        "heap b5 : 2*a2")

    def test_a_heap_of_a_row_is_none_of_a_rule(self):
        self.look_shown("row a to 1\nrow b to 4\ntake 1 one two as a\nheap a2 :\nheap a3 : a2",
                        "heap a1 :", "heap b1 :", "heap b2 : a1", "heap b3 : 2*a1", "heap b4 :", "heap a2 :",
                        "heap a3 : a2")

    def test_how_heaps_are_numbered(self):
        game = read("row c to 2\nrow a to 4\nrow b to 1\nheap z :\nheap a :")
        self.assertEqual([heap[0] for heap in game], ["c1", "a1", "b1", "c2", "a2", "a3", "a4", "z", "a"])

    def test_every_take_plainly(self):
        def plainly(size, number, take, ways):
            sums = set()
            left = number - take
            if "none" in ways and left == 0:
                sums.add((0,) * size)
            for some in itertools.combinations_with_replacement(range(1, size + 1), 2):
                if "two" in ways and sum(some) == left:
                    sums.add(tuple([some.count(n) for n in range(1, size + 1)]))
            if "one" in ways and left in range(1, size + 1):
                sums.add(tuple([int(n == left) for n in range(1, size + 1)]))
            return sums

        every = [ways for many in (1, 2, 3) for ways in itertools.combinations(("none", "one", "two"), many)]
        for size, take, ways in itertools.product((1, 2, 5, 9), range(1, 10), every):
            game = read(f"row w to {size}\ntake {take} {' '.join(ways)}")
            self.assertIs(look_game(game), True)
            for number in range(1, size + 1):
                self.assertEqual(game[number - 1][0], f"w{number}")
                self.assertEqual(set(game[number - 1][1]), plainly(size, number, take, ways))


class HeapRows(unittest.TestCase):
    def test_nothing_behind_the_colon(self):
        self.assertEqual(read("heap a :"), (("a", ()),))

    def test_options(self):
        self.assertEqual(read("heap a : .\nheap b9 : 2*a | . | a"), (("a", ((0, 0),)), ("b9", ((0, 0), (1, 0), (2, 0)))))

    def test_an_option_told_again_is_once_there(self):
        self.assertEqual(read("heap a : . | .\nheap b : a | . | a | ."), (("a", ((0, 0),)), ("b", ((0, 0), (1, 0)))))
        self.assertEqual(read("heap a :\nheap b :\nheap c : a b | b a")[2], ("c", ((1, 1, 0),)))

    def test_names_in_any_order(self):
        for words in itertools.permutations(["2*a", "b", "c"]):
            game = read("heap a :\nheap b :\nheap c :\nheap d : " + " ".join(words))
            self.assertEqual(game[3], ("d", ((2, 1, 1, 0),)))

    def test_heaps_of_rules_in_options(self):
        self.assertEqual(read("row a to 2\nheap a : a2 a1 | .\nheap b : a a2")[2:],
                         (("a", ((0, 0, 0, 0), (1, 1, 0, 0))), ("b", ((0, 1, 1, 0),))))

    def test_words_near_taken_ones(self):
        self.assertEqual([heap[0] for heap in read("row rows to 1\ntake 1 one as rows\nheap heaps :\nheap ones1 : heaps")],
                         ["rows1", "heaps", "ones1"])


class Refused(unittest.TestCase):
    def look_row(self, text, row):
        with self.subTest(text), self.assertRaises(NoText) as caught:
            read(text)
        self.assertEqual(caught.exception.row, row)
        self.assertIsInstance(caught.exception, HeapError)

    def look_named(self, error, text, name):
        with self.subTest(text), self.assertRaises(error) as caught:
            read(text)
        self.assertEqual(caught.exception.name, name)

    def look_too_many(self, text):
        with self.subTest(text), self.assertRaises(TooMany):
            read(text)

    def test_no_form_at_all(self):
        for row in (" ", "a", "Row a to 3", "rows a to 3", "heaps a :", "takes 1 one", "row", "take", "heap", "to", ":",
                    ".", "|", "# a", "ROW a to 3", "none", "as a"):
            self.look_row(row, 0)
            self.look_row("row a to 3\n" + row, 1)
            self.look_row("heap a :\nheap b :\n" + row, 2)

    def test_rules_without_form(self):
        for row in ("row a", "row a to", "row to 3", "row a 3", "row a to 0", "row a to 10", "row a to 01", "row a to x",
                    "row a to -1", "row a to 3 4", "row a to 3 take 1 one", "row a1 to 3", "row A to 3", "row abcdef to 3",
                    "row a  to 3", "row a to  3", " row a to 3", "row a to 3 ", "row  a to 3", "row a as 3", "row 3 to a",
                    "row a b to 3", "row a\tto 3", "row  to 3", "row a to \u0663", "row a to \u00b2", "row a to "):
            self.look_row(row, 0)

    def test_rules_of_taken_words(self):
        for word in TAKEN:
            self.look_row(f"row {word} to 3", 0)
            self.look_row(f"row a to 3\ntake 1 one as {word}", 1)
            self.look_row(f"heap {word} :", 0)
            self.look_row(f"heap {word}1 :", 0)
            self.look_row(f"heap a :\nheap b : {word}", 1)
            self.look_row(f"heap a :\nheap b : a {word}9", 1)

    def test_takes_without_form(self):
        for row in ("take 1", "take one", "take 0 one", "take 10 one", "take 01 one", "take x one", "take one 1",
                    "take 1 one one", "take 1 none none", "take 1 two two", "take 1 one none", "take 1 two one",
                    "take 1 two none", "take 1 none two one", "take 1 three", "take 1 a", "take 1 as a", "take 1 as",
                    "take 1 one as", "take 1 one as a1", "take 1 one as A", "take 1 one as abcdef", "take 1 one as a a",
                    "take 1 one as a two", "take 1 one a", "take 1 one as a as a", "take 1 as a one", "take as a",
                    "take 1 one as as", "take 1 one as as a", "take 1  one", "take 1 one ", " take 1 one", "take  1 one",
                    "take 1 one  two", "take 1 one as  a", "take 1 one as ", "take 1 one, two", "take -1 one", "take  one",
                    "take 1 one as 2", "take \u0661 one", "take 1 one as a "):
            self.look_row("row a to 3\n" + row, 1)
            self.look_row("row a to 3\ntake 1 one\n" + row, 2)

    def test_heaps_rows_without_form(self):
        for row in ("heap a", "heap :", "heap a:", "heap a .", "heap a : ", "heap a  :", "heap  a :", " heap a :", "heap a :.",
                    "heap A :", "heap a0 :", "heap a10 :", "heap abcdef :", "heap a b :", "heap a : |", "heap a : . |",
                    "heap a : | .", "heap a : . | | .", "heap a : . .", "heap a : .  | .", "heap a : . b", "heap a : b .",
                    "heap a : 1*b", "heap a : 0*b", "heap a : 02*b", "heap a : 2 b", "heap a : 2*", "heap a : B",
                    "heap a : 2*2*b", "heap a : b|b", "heap a : . |.", "heap a : : .", "heap a :  .", "heap a : . ",
                    "heap a : " + str(10 ** 30 + 1) + "*b", "heap a : b0", "heap a : *b", "heap a : 2*.", "heap a :\t."):
            self.look_row(row, 0)
            self.look_row("row b to 3\nheap b :\n" + row, 2)

    def test_empty_rows(self):
        self.look_row("\n", 0)
        self.look_row("\nrow a to 3", 0)
        self.look_row("row a to 3\n", 1)
        self.look_row("row a to 3\n\ntake 1 one", 1)
        self.look_row("heap a :\n", 1)
        self.look_row("heap a :\n\n", 1)
        self.look_row("row a to 3\r\ntake 1 one", 0)

    def test_takes_elsewhere(self):
        self.look_row("take 1 one", 0)
        self.look_row("take 1 one\nrow a to 3", 0)
        self.look_row("heap a :\ntake 1 one", 1)
        self.look_row("row a to 3\ntake 1 one\nheap a :\ntake 1 one", 3)

    def test_rules_behind_heaps_rows(self):
        self.look_row("heap a :\nrow b to 3", 1)
        self.look_row("row a to 3\nheap a :\nrow b to 3\ntake 1 one", 2)
        self.look_row("row a to 3\nheap a :\nheap b :\nrow b to 3", 3)

    def test_the_first_row_is_told(self):
        self.look_row("row a to 3\ntake 1\nheap\nrow", 1)
        self.look_row("heap a :\nrow b to 3\ntake", 1)
        self.look_row("heap a :\nheap\ntake 1 one", 1)
        self.look_row("heap a :\ntake 1 one\nheap", 1)

    def test_rules_words_twice(self):
        self.look_named(Twice, "row a to 3\nrow a to 3", "a")
        self.look_named(Twice, "row a to 1\ntake 1 one\nrow b to 2\nrow b to 1\nrow a to 2", "b")

    def test_heaps_names_twice(self):
        self.look_named(Twice, "heap a :\nheap a :", "a")
        self.look_named(Twice, "row a to 3\nheap a3 :", "a3")
        self.look_named(Twice, "row a to 3\nheap b :\nheap c :\nheap b :\nheap a1 :", "b")
        self.assertEqual(len(read("row a to 3\nheap a4 :\nheap a :")), 5)

    def test_names_twice_in_a_sum(self):
        self.look_named(Twice, "heap a :\nheap b : a a", "a")
        self.look_named(Twice, "row a to 3\nheap b : . | a1 2*a3 a2 4*a3 a1", "a3")
        self.assertEqual(len(read("heap a :\nheap b : a | 2*a | 3*a")[1][1]), 3)

    def test_the_first_that_is_twice_is_told(self):
        self.look_named(Twice, "row a to 1\nrow a to 1\nheap b : c c", "a")
        self.look_named(Twice, "heap a :\nheap b : c c | d d\nheap a :", "c")
        self.look_named(Twice, "heap a :\nheap a : c c", "a")
        self.look_named(Twice, "heap b : c | d d | c c", "d")

    def test_words_behind_an_as_that_are_no_rules(self):
        self.look_named(NoName, "row a to 3\ntake 1 one as b", "b")
        self.look_named(NoName, "row a to 3\ntake 1 none as b", "b")
        self.look_named(NoName, "row a to 3\ntake 1 one as b\nheap b :", "b")
        self.look_named(NoName, "row a to 3\ntake 1 one\ntake 1 one as c\nrow b to 1\ntake 1 one as d", "c")

    def test_names_in_sums_that_are_no_heaps_told_ahead(self):
        self.look_named(NoName, "heap a : b", "b")
        self.look_named(NoName, "heap a : a", "a")
        self.look_named(NoName, "heap a : . | 2*a", "a")
        self.look_named(NoName, "heap a : b\nheap b :", "b")
        self.look_named(NoName, "row a to 3\nheap b : a1 a4 c", "a4")
        self.look_named(NoName, "row a to 3\nheap b : a", "a")
        self.look_named(NoName, "heap a :\nheap b : a | d a\nheap c : e", "d")

    def test_the_first_that_is_no_name_is_told(self):
        self.look_named(NoName, "row a to 3\ntake 1 one as z\nheap b : y", "z")
        self.look_named(NoName, "heap b : y x\nheap c : z", "y")

    def test_too_many_heaps(self):
        self.look_too_many("row a to 9\nrow b to 4")
        self.look_too_many("\n".join([f"heap w{letter} :" for letter in "abcdefghijklm"]))
        self.look_too_many("row a to 9\nheap b :\nheap c :\nheap d :\nheap e :")
        self.look_too_many("\n".join([f"row {one}{other} to 9" for one in "bcdefgh" for other in "bcdefghijklmnop"]))

    def test_as_many_heaps_as_may_be(self):
        self.assertEqual(len(read("row a to 9\nrow b to 3")), 12)
        self.assertEqual(len(read("\n".join([f"heap w{letter} :" for letter in "abcdefghijkl"]))), 12)
        self.assertEqual(len(read("row a to 9\nheap b :\nheap c :\nheap d :")), 12)

    def options_text(self, many):
        names = ["a", "b", "c", "d", "e"]
        sums = [words for size in (1, 2, 3) for words in itertools.combinations_with_replacement(names, size)]
        sums.extend([words for words in itertools.combinations(names, 4)])
        texts = []
        for words in sums:
            texts.append(" ".join([name if words.count(name) == 1 else f"{words.count(name)}*{name}"
                                   for name in names if name in words]))
        self.assertGreaterEqual(len(texts), many)
        return "\n".join([f"heap {name} :" for name in names]) + "\nheap f : " + " | ".join(texts[:many])

    def test_options(self):
        self.assertEqual(len(read(self.options_text(60))[5][1]), 60)
        self.look_too_many(self.options_text(59) + " | . | b c d e")
        self.look_too_many(self.options_text(60) + " | .")

    def test_options_are_counted_once(self):
        self.assertEqual(len(read(self.options_text(60) + " | a | b | c | b a")[5][1]), 60)

    def test_heaps_in_an_option(self):
        self.assertEqual(read("heap a :\nheap b : 4*a")[1][1], ((4, 0),))
        self.assertEqual(read("row a to 4\nheap b : a1 a2 a3 a4")[4][1], ((1, 1, 1, 1, 0),))
        self.look_too_many("heap a :\nheap b : 5*a")
        self.look_too_many("row a to 5\nheap b : a1 a2 a3 a4 a5")
        self.look_too_many("row a to 2\nheap b : . | 3*a1 2*a2 | a1")
        self.look_too_many("heap a :\nheap b : " + str(10 ** 30) + "*a\nheap c :")

    def test_no_text_comes_first(self):
        self.look_row("row a to 9\nrow a to 9\ntake 1 one as z\nheap a1 : y y 5*a1\nheap", 4)
        self.look_row("heap a : b\nheap a : b b\ntake 1 one", 2)

    def test_twice_comes_ahead_of_no_name_and_too_many(self):
        self.look_named(Twice, "row a to 9\ntake 1 one as z\nheap b : y 5*a1\nheap c : x x", "x")
        self.look_named(Twice, "row a to 9\nrow b to 9\nheap c : d\nheap a1 :", "a1")
        self.look_named(Twice, "heap a : b\nheap c : d d", "d")

    def test_no_name_comes_ahead_of_too_many(self):
        self.look_named(NoName, "row a to 9\nrow b to 9\nheap c : d", "d")
        self.look_named(NoName, "heap a :\nheap b : 5*a\nheap c : d", "d")
        self.look_named(NoName, "row a to 9\ntake 1 one as z\nrow b to 9", "z")

    def test_asked_again_it_tells_the_same(self):
        text = "row a to 3\ntake 1 none one\nheap b : a1"
        self.assertEqual(read(text), read(text))


if __name__ == "__main__":
    unittest.main()
