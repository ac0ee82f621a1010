"""The rules of LANGUAGE.md that can be seen row by row; the numbers are those of the rules."""

import ast
import builtins
import functools
import pathlib
import re
import unittest

import stemsteps

FOLDER = pathlib.Path(stemsteps.__file__).parent
ALLOWED = set(
    "len range enumerate zip min max sum abs sorted reversed int str bool list tuple dict set isinstance ord repr"
    " any all divmod property super NotImplemented ValueError TypeError KeyError IndexError AttributeError".split()
)
NO_NAMES = set("mro elements open input law version_info with_traceback add_note register".split())
NO_WORDS = re.compile(r"\b(type|typing|enum|Enum|Generic|Protocol|ABC|namedtuple|TypedDict|abstractmethod)\b|dataclass")
FORBIDDEN = (
    ast.GeneratorExp, ast.Global, ast.AsyncFunctionDef, ast.AsyncFor, ast.AsyncWith, ast.Await, ast.Div, ast.MatMult,
    ast.Mod, ast.Import, ast.Try, ast.With, ast.Lambda, ast.Pow, ast.JoinedStr,
)
MODULE_LEVEL = (ast.ImportFrom, ast.FunctionDef, ast.ClassDef, ast.Assign)
BOUNDARY = {"__init__", "__eq__"}


def files():
    return sorted(path for path in FOLDER.rglob("*") if path.is_file() and "__pycache__" not in path.parts)


# Kept, so that a node that is found twice is the very same.
@functools.lru_cache(maxsize=None)
def trees():
    return [(path.name, ast.parse(path.read_text(encoding="utf-8"))) for path in files()]


def nodes(kind):
    return [(name, node) for name, tree in trees() for node in ast.walk(tree) if isinstance(node, kind)]


def fixed_properties(tree):
    """The names that some class has as a property without a setter."""
    names = set()
    for kind in ast.walk(tree):
        if isinstance(kind, ast.ClassDef):
            told = [(node.name, ast.unparse(row)) for node in kind.body if isinstance(node, ast.FunctionDef)
                    for row in node.decorator_list]
            names |= {name for name, row in told if row == "property" and (name, f"{name}.setter") not in told}
    return names


def assigned_attributes(tree):
    """The row and the name of each attribute that is assigned, in whichever way."""
    for node in ast.walk(tree):
        if isinstance(node, ast.Attribute) and isinstance(node.ctx, ast.Store):
            yield node.lineno, node.attr
        if isinstance(node, ast.Call) and ast.unparse(node.func) == "setattr":
            yield node.lineno, ast.literal_eval(node.args[1])


def fixed_names_assigned(told):
    fixed = set().union(*[fixed_properties(tree) for _, tree in told])
    return [(name, row, word) for name, tree in told for row, word in assigned_attributes(tree) if word in fixed]


class Files(unittest.TestCase):
    def test_l1_and_l14_only_files_with_plain_names(self):
        for path in files():
            self.assertRegex(path.name, r"^[a-z_]+\.py$")
        self.assertIn(FOLDER / "__init__.py", files())

    def test_l10_and_l14_rows_and_signs(self):
        for path in files():
            text = path.read_text(encoding="utf-8")
            self.assertRegex(text, r"\A[ -~\n]*\n\Z")
            self.assertLess(len(text.splitlines()), 400, path.name)
            self.assertLessEqual(max(len(row) for row in text.splitlines()), 120, path.name)

    def test_l10_functions_have_at_most_40_rows(self):
        for name, node in nodes(ast.FunctionDef):
            self.assertLessEqual(node.end_lineno - node.lineno + 1, 40, (name, node.name))

    def test_l3_only_names_functions_and_classes_at_module_level(self):
        for name, tree in trees():
            self.assertIsInstance(tree.body[0].value, ast.Constant, name)
            for node in tree.body[1:]:
                self.assertIsInstance(node, MODULE_LEVEL, name)
                if isinstance(node, ast.Assign):
                    self.assertIsInstance(ast.literal_eval(node.value), (int, str, tuple), name)


class Imports(unittest.TestCase):
    def test_l2_and_l16_from_the_very_file_that_defines_the_name(self):
        bodies = {name: tree.body for name, tree in trees()}
        for name, node in nodes(ast.ImportFrom):
            if node.module == "itertools":
                continue
            self.assertRegex(node.module, r"^stemsteps\.[a-z]+$")
            self.assertEqual(node.level, 0)
            defined = []
            for row in bodies[node.module.partition(".")[2] + ".py"]:
                if isinstance(row, (ast.FunctionDef, ast.ClassDef)):
                    defined.append(row.name)
                if isinstance(row, ast.Assign):
                    defined.append(row.targets[0].id)
            for alias in node.names:
                self.assertIsNone(alias.asname)
                self.assertIn(alias.name, defined, name)

    def test_l2_of_the_library_only_combinations(self):
        found = [alias.name for _, node in nodes(ast.ImportFrom) if node.module == "itertools" for alias in node.names]
        self.assertEqual(found, ["combinations"])

    def test_l16_no_circle(self):
        ahead = {name: set() for name, _ in trees()}
        for name, node in nodes(ast.ImportFrom):
            if node.module != "itertools":
                ahead[name].add(node.module.partition(".")[2] + ".py")
        for _ in range(len(ahead)):
            ahead = {name: {more for more in needed if ahead.get(more)} for name, needed in ahead.items()}
        self.assertEqual(set().union(*ahead.values()), set())

    def test_l16_the_init_file_imports_nothing(self):
        self.assertEqual([name for name, _ in nodes((ast.Import, ast.ImportFrom)) if name == "__init__.py"], [])


class Generators(unittest.TestCase):
    def iterated_at_once(self, names):
        """The calls of these names; each is iterated by a for, and none of the names stands without a call."""
        heads = [node.iter for _, node in nodes(ast.For)]
        calls = [node for _, node in nodes(ast.Call) if isinstance(node.func, ast.Name) and node.func.id in names]
        called = [node.func for node in calls]
        for name, node in nodes(ast.Name):
            if node.id in names:
                self.assertTrue(any(node is other for other in called), (name, node.lineno))
        for node in calls:
            self.assertTrue(any(node is head for head in heads), ast.unparse(node))
            self.assertEqual(node.keywords, [])
        return calls

    def test_l2_combinations(self):
        for node in self.iterated_at_once(["combinations"]):
            self.assertRegex(ast.unparse(node), r"^combinations\(range\(len\([a-z]+\)\), [a-z]+\)$")

    def test_l23_generators(self):
        made = [node.name for _, node in nodes(ast.FunctionDef)
                if any(isinstance(row, (ast.Yield, ast.YieldFrom)) for row in ast.walk(node))]
        self.assertEqual(made, ["words"])
        defined = [node.name for _, node in nodes(ast.FunctionDef)]
        self.assertEqual([defined.count(name) for name in made], [1])
        for node in self.iterated_at_once(made):
            self.assertEqual({type(given) for given in node.args}, {ast.Name}, ast.unparse(node))


class Rows(unittest.TestCase):
    def test_what_is_not_used(self):
        for name, node in nodes(FORBIDDEN):
            self.fail(f"{name}:{node.lineno if hasattr(node, 'lineno') else ''} {node}")

    def test_l7_no_float_and_l27_no_per_cent_in_strings(self):
        for name, node in nodes(ast.Constant):
            self.assertIsInstance(node.value, (int, str, type(None)), name)
            if isinstance(node.value, str):
                self.assertNotIn("%", node.value, name)

    def test_l4_and_l5_decorators_and_double_underscores(self):
        for name, node in nodes(ast.FunctionDef):
            for row in node.decorator_list:
                self.assertIn(ast.unparse(row), ("property", f"{node.name}.setter"), name)
            self.assertIsNone(node.returns, name)
            if node.name.startswith("__"):
                self.assertIn(node.name, BOUNDARY)

    def test_l5_an_attribute_that_is_assigned_has_the_name_of_no_property_without_a_setter(self):
        self.assertEqual(fixed_names_assigned(trees()), [])

    def test_l5_the_way_in_which_such_attributes_are_found(self):
        fixed = "class A:\n @property\n def many(self): return 1\n"
        free = fixed + " @many.setter\n def many(self, value): pass\n"
        for row in ("self.many = 1", "box.many += 1", "a, (b, *box.many) = c", "for box.many in c: pass",
                    "box.many: int = 1", "with box as box.many: pass", "setattr(box, 'many', 1)"):
            other = ast.parse(f"class B:\n def told(self):\n  {row}\n")
            self.assertEqual(fixed_names_assigned([("a.py", ast.parse(fixed)), ("b.py", other)]), [("b.py", 3, "many")])
            self.assertEqual(fixed_names_assigned([("a.py", ast.parse(free)), ("b.py", other)]), [])
            # It is not enough that one of two classes has the setter.
            both = [("a.py", ast.parse(free)), ("b.py", other), ("c.py", ast.parse(fixed))]
            self.assertEqual(fixed_names_assigned(both), [("b.py", 3, "many")])
        for row in ("self.most = 1", "many = 1", "a = box.many", "box.many[0] = 1"):
            other = ast.parse(f"class B:\n def told(self):\n  {row}\n")
            self.assertEqual(fixed_names_assigned([("a.py", ast.parse(fixed)), ("b.py", other)]), [])

    def test_l8_builtins(self):
        for name, node in nodes(ast.Name):
            if hasattr(builtins, node.id):
                self.assertIn(node.id, ALLOWED, name)
                self.assertIsInstance(node.ctx, ast.Load, (name, node.id))

    def test_l15_no_name_of_a_builtin_an_import_or_a_class_is_bound_again(self):
        for name, tree in trees():
            taken = set(dir(builtins))
            for node in ast.walk(tree):
                if isinstance(node, ast.ImportFrom):
                    taken |= {alias.name for alias in node.names}
            for node in ast.walk(tree):
                if isinstance(node, ast.arg):
                    self.assertNotIn(node.arg, taken, name)
                if isinstance(node, ast.Name) and isinstance(node.ctx, ast.Store):
                    self.assertNotIn(node.id, taken, name)
                if isinstance(node, (ast.FunctionDef, ast.ClassDef)):
                    self.assertNotIn(node.name, taken, name)

    def test_l17_names_and_words(self):
        for name, node in nodes((ast.Name, ast.Attribute, ast.arg)):
            word = getattr(node, "id", getattr(node, "attr", getattr(node, "arg", "")))
            self.assertNotIn(word, NO_NAMES, name)
            self.assertIsNone(NO_WORDS.search(word), name)
            self.assertFalse(word.startswith("__") and word not in BOUNDARY, (name, word))

    def test_l20_is_only_beside_none(self):
        for name, node in nodes(ast.Compare):
            if any(isinstance(sign, (ast.Is, ast.IsNot)) for sign in node.ops):
                self.assertIsNone(node.comparators[0].value, name)

    def test_l28_equality_asks_for_the_class_first(self):
        for name, node in nodes(ast.FunctionDef):
            if node.name == "__eq__":
                told = ast.unparse(node.body[0])
                self.assertTrue(told.startswith("return isinstance(other, "), (name, told))
