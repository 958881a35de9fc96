"""Those rules of LANGUAGE.md that can be seen from a file's text, for each file of the package."""

import ast
import builtins
import pathlib
import re
import unittest

PACKAGE = pathlib.Path(__file__).resolve().parent.parent / "beamheads"
LIBRARY = {"heapq": {"heappush", "heappop", "heapify", "heapreplace", "heappushpop"},
           "math": {"gcd", "lcm", "isqrt", "comb", "perm", "factorial"},
           "itertools": {"product", "combinations", "permutations"}}
BUILTINS = set("""len range enumerate zip min max sum abs sorted reversed int str bool bytes list tuple dict set
    frozenset isinstance ord repr any all divmod iter next map super property staticmethod classmethod Exception
    ValueError TypeError KeyError IndexError LookupError ZeroDivisionError ArithmeticError OverflowError RuntimeError
    NotImplementedError AttributeError StopIteration NotImplemented""".split())
METHODS = set("""append clear copy count endswith extend find get index insert isalnum isalpha isdigit islower isspace
    isupper items join keys ljust lower lstrip partition pop remove replace reverse rfind rjust rpartition rsplit rstrip
    setdefault split splitlines startswith strip update upper values zfill bit_length add discard __init__""".split())
SPECIAL = set("""__init__ __eq__ __repr__ __str__ __len__ __enter__ __exit__ __call__ __iter__ __contains__ __add__
    """.split())
MODIFIERS = {"append", "clear", "extend", "insert", "pop", "remove", "reverse", "setdefault", "update", "sort"}
ITERATED = {"zip", "enumerate", "reversed", "range"}
TAKERS = {"list", "tuple", "dict", "sorted", "sum", "any", "all", "enumerate", "zip", "min", "max", "join"}
WORDS = re.compile(r"\b(typing|typing_extensions|enum|Enum|IntEnum|Flag|Generic|Protocol|ABC|ABCMeta|namedtuple|"
                   r"NamedTuple|TypedDict|abstractmethod|_wall\w*)\b|dataclass|overload|contextmanager")

# L12: names that are used otherwise, also with digits or underscores behind them, and beginnings of such names.
BARRED_NAMES = re.compile(r"(_cold|_tuplegetter|_outside|_record|_written_out|_member_names)[0-9_]*\Z|"
                          r"_wall|_pe_|_dcw_|_enum_|_cm_|_twin_re_|_lay_|_law_|_stub_|_sre|_WallAttr")


def functions_of(tree):
    return [node for node in ast.walk(tree) if isinstance(node, (ast.FunctionDef, ast.Lambda))]


def bound_names(function):
    """The parameters and local variables of a function."""
    found = [part.arg for part in ast.walk(function.args) if isinstance(part, ast.arg)]
    body = function.body if isinstance(function.body, list) else [function.body]
    for statement in body:
        for node in ast.walk(statement):
            if isinstance(node, ast.Name) and isinstance(node.ctx, ast.Store):
                found.append(node.id)
            elif isinstance(node, ast.FunctionDef):
                found.append(node.name)
    return found


def decorated(part, word):
    """Whether a part of a class has this decorator: property itself, or setter as in @name.setter."""
    found = getattr(part, "decorator_list", [])
    return word in [getattr(decorator, "attr", getattr(decorator, "id", "")) for decorator in found]


def unset_properties(trees):
    """The names of the properties that have no setter in some class."""
    found = set()
    for tree in trees.values():
        for node in ast.walk(tree):
            if isinstance(node, ast.ClassDef):
                found |= ({part.name for part in node.body if decorated(part, "property")}
                          - {part.name for part in node.body if decorated(part, "setter")})
    return found


def assigned_attributes(trees):
    """Tuples (file, line, name) of all attributes that are assigned, in whatever statement."""
    return [(file, node.lineno, node.attr) for file, tree in trees.items() for node in ast.walk(tree)
            if isinstance(node, ast.Attribute) and isinstance(node.ctx, ast.Store)]


def barred_assignments(trees):
    """Where an attribute is assigned whose name is a property without a setter in some class."""
    return [found for found in assigned_attributes(trees) if found[2] in unset_properties(trees)]


def names_in(node):
    """The names that a node of a tree has: of a variable, function, class, parameter, method, attribute or import."""
    found = [getattr(node, field, None) for field in ("id", "name", "arg", "attr", "asname", "rest")]
    found += node.names if isinstance(node, (ast.Global, ast.Nonlocal)) else []
    return [name for name in found if isinstance(name, str)]


def barred_names(tree):
    """Tuples (line, name) of the names that L12 bars."""
    return sorted({(getattr(node, "lineno", 0), name) for node in ast.walk(tree) for name in names_in(node)
                   if BARRED_NAMES.match(name)})


class TestLanguage(unittest.TestCase):

    @classmethod
    def setUpClass(cls):
        cls.texts = {path.stem: path.read_text("utf-8") for path in sorted(PACKAGE.glob("*.py"))}
        cls.trees = {name: ast.parse(text) for name, text in cls.texts.items()}
        classes = [node for tree in cls.trees.values() for node in tree.body if isinstance(node, ast.ClassDef)]
        cls.methods = {node.name for part in classes for node in part.body if isinstance(node, ast.FunctionDef)}

    def each(self, *kinds):
        for name, tree in self.trees.items():
            for node in ast.walk(tree):
                if isinstance(node, kinds):
                    with self.subTest(file=name, line=getattr(node, "lineno", 0)):
                        yield node

    def test_files(self):
        for path in PACKAGE.iterdir():
            if path.name != "__pycache__":
                self.assertRegex(path.name, r"^([a-z][a-z0-9_]*|__init__|__main__)\.py$")
        for name, text in self.texts.items():
            lines = text.split("\n")
            self.assertLessEqual(len(lines) - 1, 399, name)
            self.assertLessEqual(max(len(line) for line in lines), 120, name)
            self.assertRegex(text, r"\A[\n -~]*\Z", name)
            self.assertIsNone(WORDS.search(text), name)

    def test_imports(self):
        for name, tree in self.trees.items():
            for node in ast.walk(tree):
                self.assertNotIsInstance(node, ast.Import, name)
                if isinstance(node, ast.ImportFrom) and node.module in LIBRARY:
                    self.assertTrue({part.name for part in node.names} <= LIBRARY[node.module], name)
                elif isinstance(node, ast.ImportFrom):
                    folder, _, file = node.module.partition(".")
                    self.assertEqual((folder, node.level), ("beamheads", 0), name)
                    defined = [part.name for part in self.trees[file].body if hasattr(part, "name")]
                    self.assertTrue({part.name for part in node.names} <= set(defined), name)

    def test_no_import_leads_back(self):
        imported = {name: [node.module.partition(".")[2] for node in tree.body if isinstance(node, ast.ImportFrom)]
                    for name, tree in self.trees.items()}
        settled = set(LIBRARY)
        for _ in imported:
            settled |= {name for name, others in imported.items() if settled.issuperset(filter(None, others))}
        self.assertEqual(set(imported) - settled, set())

    def test_module_level(self):
        for name, tree in self.trees.items():
            for node in tree.body:
                self.assertIsInstance(node, (ast.Expr, ast.ImportFrom, ast.FunctionDef, ast.ClassDef, ast.Assign), name)
                if isinstance(node, ast.Expr):
                    self.assertIsInstance(node.value, ast.Constant, name)

    def test_functions(self):
        for node in self.each(ast.FunctionDef):
            self.assertLessEqual(node.end_lineno - node.lineno + 1, 40)
            self.assertTrue(not node.name.startswith("__") or node.name in SPECIAL)
            self.assertIsNone(node.returns)
            for decorator in node.decorator_list:
                name = decorator.attr if isinstance(decorator, ast.Attribute) else decorator.id
                self.assertIn(name, {"property", "setter", "staticmethod", "classmethod"})

    def test_statements_and_expressions(self):
        barred = (ast.AnnAssign, ast.Global, ast.AsyncFunctionDef, ast.Await, ast.Div, ast.TryStar)
        for node in self.each(*barred):
            self.fail(type(node).__name__)
        for node in self.each(ast.Is, ast.IsNot, ast.Compare):
            if isinstance(node, ast.Compare) and isinstance(node.ops[0], (ast.Is, ast.IsNot)):
                self.assertIsInstance(node.comparators[0], ast.Constant)
        for node in self.each(ast.Constant):
            self.assertNotIsInstance(node.value, (float, complex))
            self.assertFalse(isinstance(node.value, str) and "%" in node.value)

    def test_names(self):
        # Examples that are run leave their last value under the name _.
        own = set(dir(builtins)) - {"_"}
        for name, tree in self.trees.items():
            taken = {part.name for part in tree.body if isinstance(part, ast.ClassDef)}
            taken |= {part.name for node in tree.body if isinstance(node, ast.ImportFrom) for part in node.names}
            for function in functions_of(tree):
                self.assertEqual(set(bound_names(function)) & (taken | own), set(), name)
            stored = [node.id for node in ast.walk(tree) if isinstance(node, ast.Name) and node.id in own]
            self.assertEqual(set(stored) - BUILTINS, set(), name)

    def test_called_methods(self):
        for node in self.each(ast.Call):
            if isinstance(node.func, ast.Attribute):
                self.assertIn(node.func.attr, METHODS | self.methods)

    def test_iterated_at_once(self):
        for name, tree in self.trees.items():
            allowed = []
            for node in ast.walk(tree):
                if isinstance(node, (ast.For, ast.comprehension)):
                    allowed.append(node.iter)
                elif isinstance(node, ast.Call) and node.args:
                    called = node.func.id if isinstance(node.func, ast.Name) else getattr(node.func, "attr", "")
                    if called in TAKERS:
                        allowed.append(node.args[0])
            for node in ast.walk(tree):
                if isinstance(node, ast.Call) and isinstance(node.func, ast.Name) and node.func.id in ITERATED:
                    self.assertTrue(node in allowed, (name, node.lineno))
                if isinstance(node, ast.GeneratorExp):
                    self.fail(f"a generator expression: {name}, {node.lineno}")

    def test_special_methods_assign_lists_alone(self):
        for node in self.each(ast.FunctionDef):
            if node.name in ("__eq__", "__repr__", "__str__", "__len__"):
                for part in ast.walk(node):
                    self.assertFalse(node.name != "__eq__" and isinstance(part, ast.Add))
                    if isinstance(part, ast.Assign):
                        self.assertIsInstance(part.value, (ast.List, ast.ListComp))
                    self.assertNotIsInstance(part, ast.NamedExpr)

    def test_operators_and_properties_change_nothing(self):
        checked = SPECIAL - {"__init__", "__enter__", "__exit__", "__call__"}
        for node in self.each(ast.FunctionDef):
            names = [getattr(decorator, "id", "") for decorator in node.decorator_list]
            if node.name not in checked and "property" not in names:
                continue
            for part in ast.walk(node):
                self.assertNotIsInstance(part, (ast.AugAssign, ast.Delete))
                if isinstance(part, (ast.Attribute, ast.Subscript)):
                    self.assertIsInstance(part.ctx, ast.Load)
                if isinstance(part, ast.Call) and isinstance(part.func, ast.Attribute):
                    self.assertNotIn(part.func.attr, MODIFIERS)

    def test_barred_names(self):
        for name, tree in self.trees.items():
            self.assertIsNone(BARRED_NAMES.match(name))
            self.assertEqual(barred_names(tree), [], name)

    def test_properties_that_are_assigned_have_setters(self):
        self.assertEqual(barred_assignments(self.trees), [])

    def test_names_of_properties_and_methods(self):
        """No property has the name of a method, no method of a class that of an attribute of a related one."""
        parts = [part for node in self.each(ast.ClassDef) for part in node.body if isinstance(part, ast.FunctionDef)]
        properties = {part.name for part in parts if decorated(part, "property")}
        methods = {part.name for part in parts if not part.decorator_list or not decorated(part, "property")
                   and not decorated(part, "setter")}
        self.assertEqual(properties & methods, set())
        self.assertEqual(methods & {name for _, _, name in assigned_attributes(self.trees)}, set())
        self.assertEqual(properties & METHODS, set())

    def test_attributes_that_are_read_are_assigned(self):
        known = {name for _, _, name in assigned_attributes(self.trees)} | METHODS | self.methods | {"setter"}
        for node in self.each(ast.ClassDef):
            known |= {part.targets[0].id for part in node.body if isinstance(part, ast.Assign)}
        for node in self.each(ast.Attribute):
            self.assertIn(node.attr, known)

    def test_generators(self):
        """Generators are iterated at once, and nothing else has their names."""
        functions = [node for node in self.each(ast.FunctionDef)]
        generators = {node.name for node in functions
                      if any(isinstance(part, (ast.Yield, ast.YieldFrom)) for part in ast.walk(node))}
        names = [node.name for node in functions]
        self.assertEqual([name for name in generators if names.count(name) > 1], [])
        for name, tree in self.trees.items():
            iterated = [node.iter for node in ast.walk(tree) if isinstance(node, (ast.For, ast.comprehension))]
            iterated += [node.args[0] for node in ast.walk(tree) if isinstance(node, ast.Call) and node.args
                         and getattr(node.func, "id", getattr(node.func, "attr", "")) in TAKERS]
            called = [node.func for node in iterated if isinstance(node, ast.Call)]
            for node in ast.walk(tree):
                if getattr(node, "id", getattr(node, "attr", "")) in generators:
                    self.assertTrue(node in called, (name, node.lineno))
                if isinstance(node, ast.Expr) and isinstance(node.value, (ast.Yield, ast.YieldFrom)):
                    continue
                for part in ast.iter_child_nodes(node):
                    self.assertNotIsInstance(part, (ast.Yield, ast.YieldFrom))


class TestBarredNames(unittest.TestCase):
    """That the check of barred names finds what it looks for."""

    PLACES = ["{} = 1", "def {}(x):\n    pass", "class {}:\n    pass", "def f({}):\n    pass", "def f(*, {}=1):\n    pass",
              "def f(*{}):\n    pass", "def f(**{}):\n    pass", "lambda {}: 1", "self.{} = 1", "x = self.{}",
              "class A:\n    def {}(self):\n        pass", "from a import {}", "from a import b as {}", "f({}=1)",
              "for {} in xs:\n    pass", "[{} for k in xs]", "try:\n    pass\nexcept A as {}:\n    pass",
              "with a as {}:\n    pass", "match x:\n    case [{}, *_]:\n        pass",
              "match x:\n    case [*{}]:\n        pass", "def f():\n    def g():\n        nonlocal {}", "({}) += 1"]

    def test_each_place_of_a_name(self):
        for place in self.PLACES:
            for name in ("_cold", "_tuplegetter", "_outside", "_record", "_written_out", "_member_names", "_outside2",
                         "_record_", "_cold_1_", "_pe_a", "_dcw_", "_enum_x", "_cm_a", "_twin_re_b", "_lay_c", "_law_d",
                         "_stub_e", "_sre", "_sreads", "_WallAttr", "_wall", "_walls"):
                found = barred_names(ast.parse(place.format(name)))
                self.assertEqual([barred for _, barred in found], [name], place)

    def test_other_names(self):
        for place in self.PLACES:
            for name in ("outside", "_beyond", "_outsider", "_recorded", "_colder", "cold", "_pe", "_lay", "_law", "wall",
                         "record_2", "a_cold"):
                self.assertEqual(barred_names(ast.parse(place.format(name))), [], place)
        self.assertEqual(barred_names(ast.parse("x = '_outside'\n# _cold\n")), [])


class TestBarredAssignments(unittest.TestCase):
    """That the check of assigned properties finds what it looks for."""

    GETTER = "class Box:\n    @property\n    def name(self):\n        return self._name\n"
    SETTER = "    @name.setter\n    def name(self, value):\n        self._name = value\n"

    def found(self, *texts):
        return barred_assignments({f"file{at}": ast.parse(text) for at, text in enumerate(texts)})

    def test_each_way_to_assign(self):
        for line in ["bag.name = 1", "bag.name += 1", "bag.name, k = 1, 2", "k = bag.name = 1", "bag.name: int = 1",
                     "(k, [bag.name, *rest]) = xs", "for bag.name in xs:\n    pass",
                     "def f(self):\n    self.name = 1"]:
            at = 2 if line.startswith("def") else 1
            self.assertEqual(self.found(self.GETTER, line), [("file1", at, "name")])
            self.assertEqual(self.found(line, self.GETTER), [("file0", at, "name")])
            self.assertEqual(self.found(self.GETTER + self.SETTER, line), [])
            self.assertEqual(self.found(self.GETTER + self.SETTER, line, self.GETTER.replace("Box", "Bag")),
                             [("file1", at, "name")])

    def test_what_is_only_read_or_has_another_name(self):
        for line in ["k = bag.name", "bag.name.other = 1", "bag.name[0] = 1", "name = 1", "bag._name = 1",
                     "bag.names = 1"]:
            self.assertEqual(self.found(self.GETTER, line), [])


if __name__ == "__main__":
    unittest.main()
