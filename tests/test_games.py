import unittest

from lastloser.errors import HeapError, NoGame
from lastloser.games import look_game

NIM = (
    ("a1", ((0, 0, 0),)),
    ("a2", ((0, 0, 0), (1, 0, 0))),
    ("a3", ((0, 0, 0), (1, 0, 0), (0, 1, 0), (2, 0, 0))),
)


class Games(unittest.TestCase):
    def look_refused(self, game, word, heap):
        with self.assertRaises(NoGame) as caught:
            look_game(game)
        self.assertEqual((caught.exception.word, caught.exception.heap), (word, heap))
        self.assertIsInstance(caught.exception, HeapError)

    def test_let_by(self):
        for game in ((), (("a", ()),), (("a", ((0,),)),), NIM, (("abcde9", ()), ("rows", ()))):
            with self.subTest(game):
                self.assertIs(look_game(game), True)

    def test_the_empty_option_of_the_only_heap(self):
        self.assertIs(look_game((("a", ((0,),)),)), True)
        self.look_refused((("a", ((),)),), "sum", 0)

    def test_options_of_more_heaps_than_the_bounds(self):
        self.assertIs(look_game((("a", ()), ("b", ((5, 0), (10 ** 30, 0), (10 ** 40, 0))))), True)

    def test_more_heaps_and_options_than_the_bounds(self):
        many = tuple([("w" + "abcdefghijklm"[h], ()) for h in range(13)])
        self.assertIs(look_game(many), True)
        options = tuple([(k, 0) for k in range(61)])
        self.assertIs(look_game((("a", ()), ("b", options))), True)

    def test_by_name(self):
        self.assertIs(look_game(game=NIM), True)

    def test_name(self):
        for name in ("", "A", "a0", "abcdef", "row", "heap", "row1", "as9", "a 1", "2*a", ".", "a\n"):
            with self.subTest(name):
                self.look_refused(((name, ()),), "name", 0)
                self.look_refused((("a", ()), ("b", ((0, 0, 0),)), (name, ())), "name", 2)

    def test_twice(self):
        self.look_refused((("a", ()), ("a", ())), "twice", 1)
        self.look_refused((("a1", ()), ("b", ()), ("c", ()), ("a1", ())), "twice", 3)
        self.look_refused((("a", ()), ("b", ()), ("b", ()), ("a", ())), "twice", 2)
        self.assertIs(look_game((("a", ()), ("a1", ()))), True)

    def test_sum(self):
        others = (None, "", "a", "00", 0, 7, (), (0,), (0, 0, 0), (0, -1), (-1, 0), (0, None), (None, 0), (0, "0"),
                  ("", ""), ((), ()), ((0, 0),), ((0, 0), (0, 0)), (False, 0), (True, 0), (0, False), 10 ** 30)
        for option in others:
            with self.subTest(option):
                self.look_refused((("a", ()), ("b", (option,))), "sum", 1)
                self.look_refused((("a", ()), ("b", ((0, 0), option))), "sum", 1)

    def test_lesser(self):
        self.look_refused((("a", ((1,),)),), "lesser", 0)
        self.look_refused((("a", ((0, 1),)), ("b", ())), "lesser", 0)
        self.look_refused((("a", ()), ("b", ((0, 1),))), "lesser", 1)
        self.look_refused((("a", ()), ("b", ((5, 10 ** 30),))), "lesser", 1)
        self.look_refused((("a", ()), ("b", ((1, 0, 1),)), ("c", ())), "lesser", 1)

    def test_order(self):
        self.look_refused((("a", ((0,), (0,))),), "order", 0)
        self.look_refused((("a", ()), ("b", ((1, 0), (0, 0)))), "order", 1)
        self.look_refused((("a", ()), ("b", ((0, 0), (1, 0), (1, 0)))), "order", 1)
        self.look_refused((("a", ()), ("b", ()), ("c", ((0, 1, 0), (1, 0, 0)))), "order", 2)
        self.look_refused((("a", ()), ("b", ()), ("c", ((2, 0, 0), (0, 1, 0)))), "order", 2)
        self.assertIs(look_game((("a", ()), ("b", ()), ("c", ((1, 0, 0), (0, 1, 0), (2, 0, 0))))), True)

    def test_an_earlier_heap_is_told_first(self):
        self.look_refused((("a", ((0, 0, 0), (0, 0, 0))), ("A", ()), ("a", ())), "order", 0)
        self.look_refused((("a", (None,)), ("A", (None,))), "sum", 0)
        self.look_refused((("a", ()), ("a", ()), ("A", ())), "twice", 1)

    def test_a_name_is_looked_at_ahead_of_options(self):
        self.look_refused((("A", (None, (1,), (0,), (0,))),), "name", 0)
        self.look_refused((("A", ()), ("A", (None,))), "name", 0)
        self.look_refused((("a", ()), ("a", (None,))), "twice", 1)

    def test_of_one_option_sum_comes_ahead_of_lesser_and_this_of_order(self):
        self.look_refused((("a", ((1, 0, 0),)),), "sum", 0)
        self.look_refused((("a", ()), ("b", ((2, 0), (1, -1)))), "sum", 1)
        self.look_refused((("a", ()), ("b", ((2, 0), (0, 1)))), "lesser", 1)

    def test_an_earlier_option_is_told_first(self):
        self.look_refused((("a", ()), ("b", ((0, 1), None))), "lesser", 1)
        self.look_refused((("a", ()), ("b", ((1, 0), (0, 0), None))), "order", 1)
        self.look_refused((("a", ()), ("b", (None, (0, 1)))), "sum", 1)
        self.look_refused((("a", ()), ("b", ((1, 0), (1, 0), (0, 1)))), "order", 1)

    def test_asked_again_it_tells_the_same(self):
        wrong = (("a", ()), ("a", (None,)))
        for again in range(3):
            self.assertIs(look_game(NIM), True)
            self.look_refused(wrong, "twice", 1)


if __name__ == "__main__":
    unittest.main()
