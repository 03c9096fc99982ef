"""Looks at the package's files by the rules of LANGUAGE.md, as far as a reader of code can.

`faults(files)` takes a dict from file names within the package to their sources and tells
a list of (rule, file, line). Where a rule lets something in rare places alone, this is
stricter: what the package doesn't need is not let at all (`%` in texts, annotations, sets but in `sorted`
and `len`).
"""

import ast
import builtins
import re

PACKAGE = "lastloser"
BUILTINS = dir(builtins)
FUNCTIONS = """len range enumerate zip min max sum abs sorted reversed int str bool list tuple dict set frozenset
    isinstance ord repr any all divmod""".split()
ERRORS = """Exception ValueError TypeError KeyError IndexError LookupError ZeroDivisionError ArithmeticError
    OverflowError RuntimeError NotImplementedError AttributeError StopIteration""".split()
METHODS = """append clear copy count endswith extend find get index insert isalnum isalpha isdigit islower isspace
    isupper items join keys ljust lower lstrip partition pop remove replace reverse rfind rjust rpartition rsplit
    rstrip setdefault split splitlines startswith strip update upper values zfill bit_length""".split()
DOUBLE = "__init__ __eq__ __repr__ __str__ __len__".split()
NO_NAMES = """register mro elements open input version_info with_traceback add_note attrgetter breakpoint builtins
    compile copyright credits delattr dir eval exec exit gc getattr globals hasattr help id importlib license locals
    methodcaller os quit setattr super type vars sys chr print format format_map""".split()
NO_WORDS = re.compile(
    r"\b(type|typing|typing_extensions|enum|Enum|IntEnum|StrEnum|Flag|IntFlag|Generic|Protocol|ABC|ABCMeta|namedtuple"
    r"|NamedTuple|TypedDict|TYPE_CHECKING|abstractmethod)\b|dataclass|overload|contextmanager")
NO_FILES = re.compile(r"^(tests?|testing|test_.*|site|conftest|sitecustomize|usercustomize)$")
NO_NODES = {
    "L4": (ast.AsyncFunctionDef,),
    "L6": (ast.With, ast.AsyncWith, ast.AsyncFor, ast.Match, ast.Delete, ast.Global, ast.Nonlocal, ast.Assert,
           ast.Yield, ast.YieldFrom, ast.Await, ast.TryStar),
    "L7": (ast.Div, ast.MatMult, ast.SetComp, ast.DictComp, ast.GeneratorExp, ast.NamedExpr, ast.Starred),
    "L16": (ast.Import,),
    "L21": (ast.AnnAssign,),
    "L24": (ast.Set,),
}
WALKED = ("zip", "enumerate", "reversed", "range")
WALKERS = ("list", "tuple", "dict", "sorted", "sum", "any", "all", "enumerate", "zip", "min", "max")
KEYWORDS = {"sorted": ("key", "reverse"), "min": ("key", "default"), "max": ("key", "default"),
            "sum": ("start",), "enumerate": ("start",), "zip": ("strict",)}


def is_text(node):
    return isinstance(node, ast.Constant) and isinstance(node.value, str)


def is_docstring(node):
    return isinstance(node, ast.Expr) and is_text(node.value)


def is_plain(node):
    if isinstance(node, ast.Constant):
        return True
    if isinstance(node, (ast.Tuple, ast.List)):
        return all(is_plain(part) for part in node.elts)
    if isinstance(node, ast.Dict):
        return all(is_plain(part) for part in node.keys + node.values)
    if isinstance(node, ast.UnaryOp):
        return is_plain(node.operand)
    if isinstance(node, ast.BinOp):
        return is_plain(node.left) and is_plain(node.right)
    return isinstance(node, ast.Name)


def called(node):
    return node.func.id if isinstance(node, ast.Call) and isinstance(node.func, ast.Name) else None


class Look:
    def __init__(self, file, source, methods, values):
        self.file = file
        self.source = source
        self.methods = methods
        self.values = values
        self.found = []
        self.tree = ast.parse(source)
        self.parents = {}
        for node in ast.walk(self.tree):
            for child in ast.iter_child_nodes(node):
                self.parents[child] = node

    def tell(self, rule, node):
        self.found.append((rule, self.file, getattr(node, "lineno", 0)))

    def look(self):
        self.look_signs()
        self.look_top()
        for node in ast.walk(self.tree):
            for rule, kinds in NO_NODES.items():
                if isinstance(node, kinds):
                    self.tell(rule, node)
            look = getattr(self, "look_" + node.__class__.__name__.lower(), None)
            if look is not None:
                look(node)
        return self.found

    def look_signs(self):
        lines = self.source.split("\n")
        if len(lines) > 401:
            self.found.append(("L10", self.file, 401))
        for number, line in enumerate(lines, start=1):
            if len(line) > 120 or "\t" in line:
                self.found.append(("L10", self.file, number))
            if any(not " " <= sign <= "~" for sign in line):
                self.found.append(("L14", self.file, number))
            if NO_WORDS.search(line):
                self.found.append(("L17", self.file, number))

    def look_top(self):
        bound = []
        for place, node in enumerate(self.tree.body):
            if isinstance(node, (ast.FunctionDef, ast.ClassDef)):
                bound.append(node.name)
            elif isinstance(node, ast.ImportFrom):
                bound.extend(part.name for part in node.names)
            elif isinstance(node, ast.Assign) and isinstance(node.targets[0], ast.Name) and is_plain(node.value):
                bound.append(node.targets[0].id)
            elif place > 0 or not is_docstring(node):
                self.tell("L3", node)
        if len(bound) != len(set(bound)):
            self.found.append(("L15", self.file, 0))
        self.outer = [name for name in bound
                      if name in [node.name for node in self.tree.body if isinstance(node, ast.ClassDef)]
                      or name in [part.name for node in self.tree.body if isinstance(node, ast.ImportFrom)
                                  for part in node.names]]

    def look_importfrom(self, node):
        if node.level or not (node.module or "").startswith(PACKAGE + "."):
            self.tell("L2", node)
        if any(part.name == "*" or part.asname for part in node.names) or self.parents[node] is not self.tree:
            self.tell("L2", node)

    def look_name_bound(self, name, node):
        if name.startswith("_"):
            self.tell("L12", node)
        if name in self.outer or name in BUILTINS:
            self.tell("L15", node)
        if name in NO_NAMES:
            self.tell("L17", node)

    def look_functiondef(self, node):
        spread = node.args
        if node.decorator_list or spread.vararg or spread.kwarg or spread.kwonlyargs or spread.posonlyargs:
            self.tell("L4", node)
        if not all(is_plain(value) for value in spread.defaults):
            self.tell("L4", node)
        if node.returns is not None:
            self.tell("L21", node)
        if node.end_lineno - node.lineno >= 40:
            self.tell("L10", node)
        if isinstance(self.parents[node], ast.ClassDef):
            if node.name.startswith("_") and node.name not in DOUBLE:
                self.tell("L12", node)
            return
        if node.name.startswith("_"):
            self.tell("L12", node)
        if node.name in BUILTINS:
            self.tell("L8", node)

    def look_arg(self, node):
        if node.annotation is not None:
            self.tell("L21", node)
        self.look_name_bound(node.arg, node)

    def look_classdef(self, node):
        if node.decorator_list or node.keywords or len(node.bases) > 1:
            self.tell("L5", node)
        if self.parents[node] is not self.tree:
            self.tell("L15", node)
        for part in node.body:
            if not isinstance(part, (ast.FunctionDef, ast.Pass)):
                self.tell("L5", part)
        names = [part.name for part in node.body if isinstance(part, ast.FunctionDef)]
        if len(names) != len(set(names)):
            self.tell("L18", node)

    def look_assign(self, node):
        if len(node.targets) > 1:
            self.tell("L6", node)

    def look_for(self, node):
        if node.orelse:
            self.tell("L6", node)

    def look_while(self, node):
        if node.orelse:
            self.tell("L6", node)

    def look_try(self, node):
        if node.finalbody:
            self.tell("L6", node)

    def look_excepthandler(self, node):
        if node.type is None or "Exception" in ast.dump(node.type) or "'TypeError'" in ast.dump(node.type):
            self.tell("L19", node)

    def look_expr(self, node):
        if not isinstance(node.value, ast.Call) and not is_docstring(node):
            self.tell("L6", node)

    def look_constant(self, node):
        if isinstance(node.value, (float, complex, bytes)) or node.value is Ellipsis:
            self.tell("L7", node)
        if is_text(node) and "%" in node.value:
            self.tell("L27", node)

    def look_formattedvalue(self, node):
        if not isinstance(node.value, ast.Name) or node.format_spec is not None:
            self.tell("L7", node)

    def look_listcomp(self, node):
        if len(node.generators) > 1 or len(node.generators[0].ifs) > 1:
            self.tell("L7", node)

    def look_binop(self, node):
        if isinstance(node.op, ast.Pow) and not is_plain(node.right):
            self.tell("L27", node)

    def look_compare(self, node):
        for op, side in zip(node.ops, node.comparators):
            if isinstance(op, (ast.Is, ast.IsNot)) and not (
                    isinstance(side, ast.Constant) and (side.value is None or isinstance(side.value, bool))):
                self.tell("L20", node)

    def look_name(self, node):
        if isinstance(node.ctx, ast.Store):
            if self.parents[node] in self.tree.body:
                if node.id.startswith("_") or node.id in BUILTINS:
                    self.tell("L8", node)
            else:
                self.look_name_bound(node.id, node)
            return
        if node.id in NO_NAMES:
            self.tell("L17", node)
        elif node.id in BUILTINS and node.id not in FUNCTIONS + ERRORS:
            self.tell("L8", node)
        elif node.id in ("set", "frozenset") and not self.is_spent_set(node):
            self.tell("L24", node)
        elif node.id in FUNCTIONS and not self.is_used_as_called(node):
            self.tell("L22", node)

    def is_spent_set(self, node):
        parent = self.parents[node]
        around = self.parents[parent]
        return called(parent) == "set" and called(around) in ("sorted", "len") and around.keywords == []

    def is_used_as_called(self, node):
        parent = self.parents[node]
        if isinstance(parent, ast.Tuple):
            parent = self.parents[parent]
        return isinstance(parent, ast.keyword) or (
            isinstance(parent, ast.Call) and (parent.func is node or called(parent) == "isinstance"))

    def look_attribute(self, node):
        if node.attr in NO_NAMES:
            self.tell("L17", node)
        if isinstance(self.parents[node], ast.Call) and self.parents[node].func is node:
            if node.attr not in METHODS + self.methods + ["__init__"]:
                self.tell("L25", node)
        elif node.attr not in self.values:
            self.tell("L25", node)

    def look_call(self, node):
        name = called(node)
        for word in node.keywords:
            if name in FUNCTIONS + ERRORS and word.arg not in KEYWORDS.get(name, ()):
                self.tell("L22", node)
            if isinstance(node.func, ast.Attribute) and node.func.attr in METHODS:
                self.tell("L22", node)
        plain = isinstance(node.func, ast.Attribute) and node.func.attr in ("items", "keys", "values")
        if (name in WALKED or plain) and not self.is_walked(node):
            self.tell("L23", node)

    def is_walked(self, node):
        parent = self.parents[node]
        if isinstance(parent, (ast.For, ast.comprehension)):
            return parent.iter is node
        return called(parent) in WALKERS


def own_names(trees):
    methods = [node.name for tree in trees for part in ast.walk(tree) if isinstance(part, ast.ClassDef)
               for node in part.body if isinstance(node, ast.FunctionDef)]
    values = [node.attr for tree in trees for node in ast.walk(tree)
              if isinstance(node, ast.Attribute) and isinstance(node.ctx, ast.Store)]
    return methods, values


def drawn(tree):
    return {node.module.split(".")[-1] + ".py": [part.name for part in node.names]
            for node in tree.body if isinstance(node, ast.ImportFrom)}


def defined(tree):
    names = [node.name for node in tree.body if isinstance(node, (ast.FunctionDef, ast.ClassDef))]
    return names + [node.targets[0].id for node in tree.body if isinstance(node, ast.Assign)]


def is_circular(file, draws, ahead=()):
    return file in ahead or any(is_circular(other, draws, ahead + (file,)) for other in draws.get(file, ()))


def faults(files):
    trees = {file: ast.parse(source) for file, source in files.items()}
    draws = {file: drawn(tree) for file, tree in trees.items()}
    methods, values = own_names(trees.values())
    found = [("L18", "", 0) for name in values if name in methods]
    if "__init__.py" not in files:
        found.append(("L14", "", 0))
    for file, source in files.items():
        stem = file[:-3]
        if not re.fullmatch(r"[a-z0-9_]+\.py", file) or NO_FILES.match(stem) or stem in BUILTINS:
            found.append(("L14", file, 0))
        for other, names in draws[file].items():
            if other not in trees or any(name not in defined(trees[other]) for name in names):
                found.append(("L16", file, 0))
        if is_circular(file, draws):
            found.append(("L16", file, 0))
        found.extend(Look(file, source, methods, values).look())
    return found
