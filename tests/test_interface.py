import importlib
import inspect
import unittest

FUNCTIONS = {
    "words": {"is_word": ["text"], "is_name": ["text"]},
    "games": {"look_game": ["game"]},
    "sums": {
        "nothing": ["game"],
        "added": ["one", "other"],
        "in_order": ["sums"],
        "moves": ["game", "counts"],
        "longest": ["game", "counts"],
    },
    "reader": {"read": ["text"]},
    "writer": {"shown": ["game"]},
    "sumtexts": {"read_sum": ["game", "text"], "show_sum": ["game", "counts"]},
    "walks": {
        "reached": ["game", "counts"],
        "loses": ["game", "counts", "last"],
        "walked": ["game", "counts", "last"],
    },
    "tables": {"look_table": ["table"]},
    "things": {"thing_of": ["table", "counts"], "put": ["table", "x", "y"]},
    "tabletexts": {"show_table": ["table"], "read_table": ["text"]},
    "pairs": {"pairs": ["game", "table"]},
    "checker": {"let_by": ["game", "last", "table"]},
    "papers": {"paper_holds": ["game", "last", "table", "paper"], "paper_of": ["game", "last", "table"]},
    "firsts": {"firsts": ["table"]},
    "parting": {"parting": ["table", "x", "y"]},
    "least": {"least": ["table"]},
    "leading": {"led": ["one", "other"]},
    "made": {"made": ["game", "last", "most"]},
    "playing": {"winning": ["game", "table", "counts"]},
    "numbers": {"numbers": ["game"], "number_of": ["game", "counts"], "number_table": ["game"]},
    "picking": {"picked": ["game", "some"], "picked_table": ["table", "some"]},
    "joining": {"joined": ["one", "other"]},
    "joints": {"joint": ["one", "other"], "unlike": ["one", "other"], "settled": ["one", "other"]},
    "desk": {"answered": ["text", "row"]},
}


class Interface(unittest.TestCase):
    def test_names_and_arguments(self):
        for module, functions in FUNCTIONS.items():
            for name, arguments in functions.items():
                with self.subTest(module=module, name=name):
                    told = getattr(importlib.import_module("lastloser." + module), name)
                    self.assertEqual(list(inspect.signature(told).parameters), arguments)


if __name__ == "__main__":
    unittest.main()
