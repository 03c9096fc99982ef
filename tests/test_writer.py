import unittest

from lastloser.errors import TooMany
from lastloser.reader import read
from lastloser.writer import shown

GAME = (
    ("a1", ()),
    ("b", ((0, 0, 0),)),
    ("heaps", ((0, 0, 0), (1, 0, 0), (0, 1, 0), (1, 1, 0), (2, 2, 0))),
)
TEXT = "heap a1 :\nheap b : .\nheap heaps : . | a1 | b | a1 b | 2*a1 2*b"


class Shown(unittest.TestCase):
    def test_without_heaps(self):
        self.assertEqual(shown(()), "")
        self.assertEqual(read(shown(())), ())

    def test_a_row_for_each_heap(self):
        self.assertEqual(shown(GAME), TEXT)
        self.assertEqual(shown(game=(("a", ()),)), "heap a :")

    def test_read_back(self):
        self.assertEqual(read(TEXT), GAME)

    def test_rules_written_and_read_back(self):
        for text in ("row a to 9\ntake 1 none one two\ntake 2 none one two",
                     "row a to 3\nrow b to 4\ntake 1 one as a\ntake 2 two\nheap z : a1 b2 | 3*b4"):
            game = read(text)
            self.assertEqual(read(shown(game)), game)

    def test_a_great_game_read_back(self):
        options = []
        for total in range(5):
            for first in range(total, -1, -1):
                for second in range(total - first, -1, -1):
                    options.append((first, second, total - first - second) + (0,) * 9)
        heaps = [("aaaaa1", ()), ("bbbbb1", ()), ("ccccc1", ())]
        heaps.extend([("abcd" + letter + "9", tuple(options)) for letter in "defghijkl"])
        game = tuple(heaps)
        self.assertGreater(len(shown(game)), 4000)
        self.assertEqual(read(shown(game)), game)

    def test_a_game_with_too_many_heaps(self):
        game = tuple([("w" + letter, ()) for letter in "abcdefghijklm"])
        text = shown(game)
        self.assertEqual(len(text.split("\n")), 13)
        with self.assertRaises(TooMany):
            read(text)


if __name__ == "__main__":
    unittest.main()
