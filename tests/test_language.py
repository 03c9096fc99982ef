import os
import unittest

import language

FOLDER = os.path.join(os.path.dirname(os.path.dirname(os.path.abspath(__file__))), language.PACKAGE)
NO_CODE = {
    "L2": ("from re import sub", "from .errors import NoText", "from lastloser.errors import *"),
    "L3": ("print(1)", "x = len('a')", "if True:\n    x = 1", "for x in (1, 2):\n    pass"),
    "L4": ("def f(*xs):\n    pass", "def f(**xs):\n    pass", "def f(*, x):\n    pass", "@f\ndef g():\n    pass"),
    "L5": ("class A:\n    x = 1", "class A(B, C):\n    pass"),
    "L6": ("def f():\n    a = b = 1", "def f():\n    assert True", "def f(d):\n    del d[0]", "def f(d):\n    yield d",
           "def f(d):\n    for x in d:\n        pass\n    else:\n        pass", "def f(d):\n    with d:\n        pass"),
    "L7": ("def f():\n    return 1.5", "def f(n):\n    return n / 2", "def f(d):\n    return all(x for x in d)",
           "def f(d):\n    return {x: 1 for x in d}", "def f(n):\n    return f'{n.real}'", "def f(d):\n    return [*d]",
           "def f(d):\n    return [x for y in d for x in y]", "def f(n):\n    return f'{n:3}'"),
    "L8": ("def f(d):\n    return iter(d)", "def f(d):\n    return list(filter(f, d))", "def len(x):\n    return 1"),
    "L10": ("def f():\n" + "    pass\n" * 40, "x = 1\n" * 401, "x = '" + "a" * 120 + "'"),
    "L12": ("def _f():\n    pass", "def f():\n    _ = 1"),
    "L14": ("x = '\u00e4'", "# \u00e4"),
    "L15": ("x = 1\nx = 2", "def f(next):\n    pass", "class A:\n    pass\n\ndef f():\n    A = 1", "def f():\n    sum = 1"),
    "L16": ("from lastloser.other import thing", "import sys", "import re"),
    "L17": ("def f(n):\n    return getattr(n, 'a')", "# the type of it", "def f():\n    open = 1"),
    "L18": ("class A:\n    def f(self):\n        pass\n\n    def f(self):\n        pass",),
    "L19": ("def f():\n    try:\n        f()\n    except Exception:\n        pass",),
    "L20": ("def f(n):\n    return n is 1",),
    "L21": ("def f(n: int):\n    pass", "def f() -> int:\n    pass"),
    "L22": ("def f(d):\n    g = len\n    return g(d)", "def f(d):\n    return int(d, base=3)"),
    "L23": ("def f(d):\n    x = d.items()\n    return x", "def f(d):\n    return zip(d, d)"),
    "L24": ("def f():\n    x = {1, 2}\n    return x", "def f(d):\n    return set(d)",
            "def f(d):\n    return sorted(set(d), key=len)", "def f(d):\n    return list(set(d))",
            "def f(d):\n    return len(frozenset(d))", "def f(d):\n    return sorted(set)"),
    "L25": ("def f(d):\n    d.sort()", "def f(d):\n    return d.isidentifier()", "def f(d):\n    return d.append"),
    "L27": ("def f(n):\n    return 2 ** len(n)", "def f(n):\n    return '%'"),
}


def package_files():
    files = {}
    for name in sorted(os.listdir(FOLDER)):
        if name != "__pycache__":
            with open(os.path.join(FOLDER, name), encoding="utf-8") as file:
                files[name] = file.read()
    return files


class Language(unittest.TestCase):
    def test_the_package_keeps_to_it(self):
        files = package_files()
        self.assertIn("errors.py", files)
        self.assertEqual(language.faults(files), [])

    def test_what_is_outside_is_found(self):
        for rule, sources in NO_CODE.items():
            for source in sources:
                with self.subTest(source, rule=rule):
                    found = language.faults({"__init__.py": "", "a.py": source})
                    self.assertIn(rule, [fault[0] for fault in found])

    def test_sets_that_are_let(self):
        source = "def f(d):\n    return sorted(set(d)) + [len(set(d))]\n"
        self.assertEqual(language.faults({"__init__.py": "", "a.py": source}), [])

    def test_files_that_draw_from_one_another_are_found(self):
        one = "from lastloser.b import g\n\n\ndef f():\n    return g()\n"
        other = "from lastloser.a import f\n\n\ndef g():\n    return f()\n"
        found = language.faults({"__init__.py": "", "a.py": one, "b.py": other})
        self.assertEqual(found, [("L16", "a.py", 0), ("L16", "b.py", 0)])

    def test_names_of_files(self):
        for name in ("A.py", "tests.py", "sum.py", "a-b.py", "a.txt"):
            with self.subTest(name):
                self.assertIn(("L14", name, 0), language.faults({"__init__.py": "", name: ""}))


if __name__ == "__main__":
    unittest.main()
