import itertools
import unittest

from lastloser.errors import NoName, NoText, Twice
from lastloser.sumtexts import read_sum, show_sum

GAME = (("a1", ()), ("a2", ((0, 0, 0, 0), (1, 0, 0, 0))), ("b", ()), ("heaps", ()))
GREAT = 10 ** 30


class ShowSum(unittest.TestCase):
    def test_without_heaps(self):
        self.assertEqual(show_sum((), ()), ".")
        self.assertEqual(show_sum(GAME, (0, 0, 0, 0)), ".")

    def test_names_in_the_order_of_heaps(self):
        self.assertEqual(show_sum(GAME, (1, 0, 0, 0)), "a1")
        self.assertEqual(show_sum(GAME, (0, 1, 0, 1)), "a2 heaps")
        self.assertEqual(show_sum(GAME, (2, 1, 10, 1)), "2*a1 a2 10*b heaps")

    def test_great_ones(self):
        self.assertEqual(show_sum(GAME, (0, 0, GREAT, 1)), "1" + "0" * 30 + "*b heaps")

    def test_by_name(self):
        self.assertEqual(show_sum(game=GAME, counts=(0, 2, 0, 0)), "2*a2")

    def test_read_back(self):
        for counts in itertools.product((0, 1, 2, 13, GREAT), repeat=4):
            self.assertEqual(read_sum(GAME, show_sum(GAME, counts)), counts)


class ReadSum(unittest.TestCase):
    def look_no_text(self, text, game=GAME):
        with self.subTest(text), self.assertRaises(NoText) as caught:
            read_sum(game, text)
        self.assertEqual(caught.exception.row, 0)

    def look_named(self, error, text, name, game=GAME):
        with self.subTest(text), self.assertRaises(error) as caught:
            read_sum(game, text)
        self.assertEqual(caught.exception.name, name)

    def test_without_heaps(self):
        self.assertEqual(read_sum((), "."), ())
        self.assertEqual(read_sum(GAME, "."), (0, 0, 0, 0))

    def test_names_in_any_order(self):
        for words in itertools.permutations(["2*a1", "a2", "37*b", "heaps"]):
            self.assertEqual(read_sum(GAME, " ".join(words)), (2, 1, 37, 1))

    def test_how_many(self):
        for many in (2, 3, 9, 10, 11, 20, 101, GREAT - 1, GREAT):
            self.assertEqual(read_sum(GAME, f"{many}*b"), (0, 0, many, 0))

    def test_by_name(self):
        self.assertEqual(read_sum(game=GAME, text="b a1"), (1, 0, 1, 0))

    def test_no_form(self):
        for text in ("", " ", "  ", ". .", ". a1", "a1 .", "..", " .", ". ", " a1", "a1 ", "a1  b", "a1\n", "\na1",
                     "a1\nb", "\n", ".\n", "a1 | b", "|", ":", "A1", "a0", "a10", "abcdef", "a1,b", "a1\tb"):
            self.look_no_text(text)

    def test_no_numbers(self):
        for many in ("0", "1", "00", "01", "02", "010", "", "-2", "+2", " 2", "2.0", "2_0", "x", "b", "\u0662", "\u00b2",
                     str(GREAT + 1), str(GREAT) + "0", "0" + str(GREAT), "9" * 5000):
            self.look_no_text(many + "*b")

    def test_stars_elsewhere(self):
        for text in ("2*", "*", "2", "b*2", "2 *b", "2* b", "2*2*b", "2**b", "2*.", "2*b*", "*b", "2*b*a1"):
            self.look_no_text(text)

    def test_taken_words_are_no_names(self):
        for word in ("row", "to", "take", "none", "one", "two", "as", "heap"):
            for text in (word, word + "1", "2*" + word, "3*" + word + "9", "b " + word):
                self.look_no_text(text)

    def test_twice(self):
        self.look_named(Twice, "b b", "b")
        self.look_named(Twice, "b 2*b", "b")
        self.look_named(Twice, "a1 b heaps 7*b a1", "b")

    def test_no_name(self):
        self.look_named(NoName, "c", "c")
        self.look_named(NoName, "a", "a")
        self.look_named(NoName, "2*b1", "b1")
        self.look_named(NoName, "a1 x b y", "x")
        self.look_named(NoName, "rows", "rows")
        self.look_named(NoName, "a1", "a1", game=())

    def test_the_order_of_refusals(self):
        self.look_no_text("x a1 a1 1*b")
        self.look_no_text("a1 a1 row")
        self.look_no_text("x A")
        self.look_named(Twice, "x y a1 a1", "a1")
        self.look_named(Twice, "x b x b", "x")


if __name__ == "__main__":
    unittest.main()
