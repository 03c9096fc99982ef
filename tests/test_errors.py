import copy
import pickle
import unittest

from lastloser import errors

FIELDS = {
    "NoText": {"row": 3},
    "Twice": {"name": "a1"},
    "NoName": {"name": "b"},
    "TooMany": {},
    "NoGame": {"word": "twice", "heap": 2},
    "NoTable": {"word": "commute", "at": (0, 1, 2)},
    "Wrong": {"counts": (1, 0, 10 ** 30)},
    "NoPaper": {"at": 4},
    "NoPick": {"heap": 5},
    "NoRow": {},
}


class Errors(unittest.TestCase):
    def look_fields(self, refusal, fields):
        self.assertEqual(vars(refusal), fields)

    def test_heap_error_is_a_value_error(self):
        self.assertEqual(errors.HeapError.__bases__, (ValueError,))

    def test_each_stands_right_under_heap_error(self):
        for name in FIELDS:
            with self.subTest(name):
                self.assertEqual(getattr(errors, name).__bases__, (errors.HeapError,))

    def test_there_are_no_others(self):
        told = {sort.__name__ for sort in errors.HeapError.__subclasses__()}
        self.assertEqual(told, set(FIELDS))

    def test_made_by_place(self):
        for name, fields in FIELDS.items():
            with self.subTest(name):
                self.look_fields(getattr(errors, name)(*fields.values()), fields)

    def test_made_by_name(self):
        for name, fields in FIELDS.items():
            with self.subTest(name):
                self.look_fields(getattr(errors, name)(**fields), fields)

    def test_made_by_names_in_another_order(self):
        self.look_fields(errors.NoGame(heap=2, word="sum"), {"word": "sum", "heap": 2})
        self.look_fields(errors.NoTable(at=(), word="form"), {"word": "form", "at": ()})

    def test_raised_and_taken(self):
        for name, fields in FIELDS.items():
            for taken in (ValueError, errors.HeapError, getattr(errors, name)):
                with self.subTest(name, taken=taken), self.assertRaises(taken) as caught:
                    raise getattr(errors, name)(**fields)
                self.look_fields(caught.exception, fields)

    def test_none_is_one_of_the_others(self):
        for name, fields in FIELDS.items():
            refusal = getattr(errors, name)(**fields)
            for other in FIELDS:
                with self.subTest(name, other=other):
                    self.assertEqual(isinstance(refusal, getattr(errors, other)), name == other)

    def test_copied_with_its_fields(self):
        for name, fields in FIELDS.items():
            refusal = getattr(errors, name)(**fields)
            for other in (copy.copy(refusal), pickle.loads(pickle.dumps(refusal))):
                with self.subTest(name):
                    self.assertEqual(type(other), type(refusal))
                    self.look_fields(other, fields)


if __name__ == "__main__":
    unittest.main()
