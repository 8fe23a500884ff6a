"""Some of the rules of the language of the package, as far as a short test can tell them."""

import ast
import builtins
import pathlib
import re
import unittest

import restballots

FOLDER = pathlib.Path(restballots.__file__).parent
TEXTS = [path.read_text(encoding="utf-8") for path in sorted(FOLDER.glob("**/*.py"))]
TREES = [ast.parse(text) for text in TEXTS]
LIBRARY = {"heapq", "math", "itertools", "collections"}
DECORATORS = {"property", "classmethod", "staticmethod"}
BARRED = set(
    "typing typing_extensions enum Enum IntEnum StrEnum Flag IntFlag Generic Protocol ABC ABCMeta namedtuple NamedTuple TypedDict "
    "abstractmethod register mro elements open input law version_info with_traceback add_note eval exec float chr".split()
)
NOT_NAMES = set(
    "attrgetter breakpoint builtins compile copyright credits delattr dir eval exec exit gc getattr globals hasattr help id importlib license locals "
    "methodcaller os quit setattr super type vars sys".split()
)
# L17: these do not occur even in strings; the last three not where a class has items.
NOT_WORDS = (
    "typing|typing_extensions|enum|Enum|IntEnum|StrEnum|Flag|IntFlag|Generic|Protocol|ABC|ABCMeta|namedtuple|NamedTuple|TypedDict|TYPE_CHECKING|"
    "abstractmethod|Meta|metaclass|type"
)
SPECIAL = {
    "__init__", "__eq__", "__str__", "__len__", "__bool__", "__iter__", "__contains__", "__getitem__", "__setitem__", "__enter__", "__exit__",
}
# L6: an attribute is a value of `self` or of the one name that is let for such a value; `value` and `trace` are not read.
VALUE = r"(?:\w+\.\w+|\d+|None|True|False|\(\))"
ROW_OF_EXIT = (
    rf"^(?:pass|return|return None|return False|if kind is (?:not )?None:|\w+ = self\.\w+|\w+\.\w+ = {VALUE}|\w+\.\w+ = {VALUE} - \d+|"
    r"\w+\.\w+ [+-]= \d+|self\.\w+\(\))$"
)
NOT_ALLOWED = (ast.Global, ast.Div, ast.AsyncFunctionDef, ast.Await, ast.Import)


def bound_names(tree):
    for node in ast.walk(tree):
        if isinstance(node, ast.Name) and isinstance(node.ctx, ast.Store):
            yield node.id
        elif isinstance(node, ast.arg):
            yield node.arg
        elif isinstance(node, ast.ExceptHandler) and node.name:
            yield node.name


def rows_of_exit(kind):
    """The rows of `__exit__` and of all methods of the same class that it calls, and so on."""
    methods = {node.name: node for node in kind.body if isinstance(node, ast.FunctionDef)}
    names, rows = ["__exit__"] if "__exit__" in methods else [], []
    for name in names:
        for row in ast.unparse(methods[name].body).split("\n"):
            rows.append(row.strip())
            names.extend(told for told in re.findall(r"self\.(\w+)\(", row) if told not in names)
    return rows


class LanguageTest(unittest.TestCase):
    def test_folder(self):
        self.assertTrue((FOLDER / "__init__.py").is_file())
        self.assertFalse((FOLDER / "tests").exists())
        for path in FOLDER.rglob("*"):
            if "__pycache__" not in path.parts and path.is_file():
                self.assertRegex(path.name, r"^[a-z_][a-z0-9_]*\.py$")

    def test_size(self):
        for text, tree in zip(TEXTS, TREES):
            self.assertLessEqual(len(text.split("\n")), 399)
            self.assertLessEqual(max(len(row) for row in text.split("\n")), 120)
            for node in ast.walk(tree):
                if isinstance(node, ast.FunctionDef):
                    self.assertLessEqual(node.end_lineno - node.lineno + 1, 40)

    def test_characters(self):
        for text, tree in zip(TEXTS, TREES):
            self.assertRegex(text, r"^[ -~\n]*$")
            for node in ast.walk(tree):
                if isinstance(node, ast.Constant) and isinstance(node.value, str):
                    self.assertNotIn("%", node.value)
                self.assertFalse(isinstance(node, ast.Constant) and isinstance(node.value, (float, complex)))

    def test_statements_and_names(self):
        for text, tree in zip(TEXTS, TREES):
            for node in ast.walk(tree):
                self.assertNotIsInstance(node, NOT_ALLOWED)
                if isinstance(node, ast.Name):
                    self.assertNotIn(node.id, BARRED)
                if isinstance(node, ast.Attribute):
                    self.assertNotIn(node.attr, BARRED)
                if isinstance(node, (ast.FunctionDef, ast.ClassDef)):
                    told = [decorator.id for decorator in node.decorator_list if isinstance(decorator, ast.Name)]
                    self.assertLessEqual(set(told), DECORATORS)
            self.assertEqual([name for name in bound_names(tree) if hasattr(builtins, name)], [])
            self.assertIsNone(re.search("_wall|_WallAttr", text))

    def test_imports(self):
        for tree in TREES:
            for node in ast.walk(tree):
                if isinstance(node, ast.ImportFrom):
                    self.assertEqual(node.level, 0)
                    self.assertTrue(node.module in LIBRARY or node.module.startswith("restballots."), node.module)
                    self.assertEqual([name.name for name in node.names if name.asname or name.name == "*"], [])
                    if node.module.startswith("restballots."):
                        defined = (FOLDER / (node.module.split(".")[1] + ".py")).read_text(encoding="utf-8")
                        for name in node.names:
                            self.assertRegex(defined, rf"(?m)^(def |class )?{name.name}\b")

    def test_names_of_one_file(self):
        for tree in TREES:
            imported = {name.name for node in ast.walk(tree) if isinstance(node, ast.ImportFrom) for name in node.names}
            classes = {node.name for node in tree.body if isinstance(node, ast.ClassDef)}
            used = {node.id for node in ast.walk(tree) if isinstance(node, ast.Name)}
            self.assertEqual(imported - used, set())
            self.assertEqual(set(bound_names(tree)) & (imported | classes | NOT_NAMES), set())
            defined = [node.name for node in tree.body if isinstance(node, (ast.FunctionDef, ast.ClassDef))] + sorted(imported)
            self.assertEqual(len(defined), len(set(defined)))

    def test_words(self):
        for text in TEXTS:
            self.assertEqual(re.findall(rf"\b(?:{NOT_WORDS})\b|dataclass|overload|contextmanager", text), [])

    def test_special_methods(self):
        for tree in TREES:
            for node in ast.walk(tree):
                if isinstance(node, ast.FunctionDef) and node.name.startswith("__"):
                    self.assertIn(node.name, SPECIAL)
                    rest = node.args
                    self.assertEqual([rest.defaults if node.name != "__init__" else [], rest.vararg, rest.kwarg, rest.kwonlyargs], [[], None, None, []])

    def test_rows_of_exit(self):
        """L6: the rows of `__exit__`, and of what it calls, are of few forms; one name alone is let for an attribute of `self`."""
        found = [rows_of_exit(kind) for tree in TREES for kind in ast.walk(tree) if isinstance(kind, ast.ClassDef)]
        self.assertEqual(len([rows for rows in found if rows]), 1)
        for rows in found:
            for row in rows:
                self.assertRegex(row, ROW_OF_EXIT)
            self.assertLessEqual(len([row for row in rows if re.match(r"\w+ = ", row)]), 1)

    def test_statements_that_are_not_used(self):
        for tree in TREES:
            in_exit = [node for whole in ast.walk(tree) if isinstance(whole, ast.FunctionDef) and whole.name == "__exit__" for node in ast.walk(whole)]
            for node in ast.walk(tree):
                self.assertNotIsInstance(node, (ast.AnnAssign, ast.Nonlocal, ast.Match, ast.Yield, ast.YieldFrom, ast.Set, ast.SetComp))
                if isinstance(node, ast.AugAssign):
                    self.assertIn(node, in_exit)
                if isinstance(node, ast.ExceptHandler):
                    self.assertIsNone(node.name)
                    for name in ast.walk(node.type):
                        if isinstance(name, ast.Name):
                            self.assertRegex(name.id, "^(Invalid|Nothing)")

    def test_module_level(self):
        allowed = (ast.Expr, ast.ImportFrom, ast.FunctionDef, ast.ClassDef, ast.Assign)
        for tree in TREES:
            for node in tree.body:
                self.assertIsInstance(node, allowed)
                if isinstance(node, ast.Expr):
                    self.assertIsInstance(node.value, ast.Constant)

    def test_calls(self):
        for tree in TREES:
            for node in ast.walk(tree):
                if isinstance(node, ast.GeneratorExp):
                    self.fail(ast.unparse(node))
                if isinstance(node, ast.Call) and isinstance(node.func, ast.Attribute):
                    self.assertNotIn(node.func.attr, ("sort", "format"))
                if isinstance(node, ast.Compare):
                    for kind, right in zip(node.ops, node.comparators):
                        if isinstance(kind, (ast.Is, ast.IsNot)):
                            self.assertIn(ast.unparse(right), ("None", "True", "False"))

    def test_each_needs_only_those_ahead(self):
        order = ["limits", "errors", "nights", "results", "prices", "possible", "blocs", "rules", "mends", "live", "shelves",
                 "checker", "certificates", "console"]
        needed = {}
        for path, tree in zip(sorted(FOLDER.glob("**/*.py")), TREES):
            modules = [node.module for node in ast.walk(tree) if isinstance(node, ast.ImportFrom)]
            needed[path.stem] = {module.split(".")[1] for module in modules if module.startswith("restballots.")}

        def behind(name, way):
            self.assertNotIn(name, way)
            return {name}.union(*[behind(other, way + [name]) for other in needed[name]])

        for name in needed:
            later = order[order.index(name) + 1:] if name in order else []
            self.assertEqual(behind(name, []) & set(later), set())


if __name__ == "__main__":
    unittest.main()
