import unittest

from lastloser.words import is_name, is_word

TAKEN = ("row", "to", "take", "none", "one", "two", "as", "heap")
NO_WORDS = ("", " ", "abcdef", "A", "aB", "Abc", "a b", " a", "a ", "a\n", "\n", "\na", "a1", "1a", "1", "a-b", "a_b",
            ".", "|", "2*a", "a*", "\u00e4", "\u00df", "\uff41", "`", "{", "@", "[", "z" * 4000)


class Words(unittest.TestCase):
    def test_words(self):
        for text in ("a", "z", "m", "ab", "abc", "abcd", "abcde", "zzzzz", "heaps", "rows"):
            with self.subTest(text):
                self.assertIs(is_word(text), True)
                self.assertIs(is_name(text), True)

    def test_each_letter(self):
        for letter in "abcdefghijklmnopqrstuvwxyz":
            self.assertIs(is_word(letter), True)

    def test_no_words(self):
        for text in NO_WORDS:
            with self.subTest(text):
                self.assertIs(is_word(text), False)

    def test_taken_words(self):
        for text in TAKEN:
            with self.subTest(text):
                self.assertIs(is_word(text), False)
                self.assertIs(is_name(text), False)
                self.assertIs(is_name(text + "1"), False)
                self.assertIs(is_name(text + "9"), False)

    def test_taken_words_with_a_sign_more_or_less(self):
        for taken in TAKEN:
            others = [taken + "x", "x" + taken, taken[:-1], taken[1:]]
            for text in others:
                if text not in TAKEN:
                    with self.subTest(text):
                        self.assertIs(is_word(text), True)
                        self.assertIs(is_name(text + "3"), True)

    def test_taken_words_in_great_letters_are_none_either(self):
        for taken in TAKEN:
            self.assertIs(is_word(taken.upper()), False)


class Names(unittest.TestCase):
    def test_each_figure(self):
        for figure in "123456789":
            for word in ("a", "abcde"):
                with self.subTest(word + figure):
                    self.assertIs(is_name(word + figure), True)
                    self.assertIs(is_word(word + figure), False)

    def test_no_names(self):
        others = ("", "1", "9", "a0", "abcde0", "abcdef1", "a10", "a11", "1a", "a 1", "a1 ", " a1", "a1\n", "A1", "a1b",
                  "a.", "a\u00b2", "a\u0661", "\u00e41", "abcdef", "2*a", "2*a1", ".", "|", ":", "z" * 4000 + "1")
        for text in others:
            with self.subTest(text):
                self.assertIs(is_name(text), False)

    def test_arguments_by_name(self):
        self.assertIs(is_word(text="a"), True)
        self.assertIs(is_name(text="a1"), True)


if __name__ == "__main__":
    unittest.main()
