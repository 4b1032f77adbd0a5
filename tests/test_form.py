"""The package keeps to its small part of Python, as far as its files show it, and draws on nothing outside itself."""

import ast
import builtins
import pathlib
import re
import unittest

PACKAGE = pathlib.Path(__file__).resolve().parent.parent / "typegraph"

KINDS = """Module Expr Constant ImportFrom alias FunctionDef arguments arg ClassDef Assign AugAssign If While For Return
Break Continue Pass Raise Call Attribute Subscript Slice Name Load Store List Tuple Dict BinOp UnaryOp BoolOp Compare
IfExp ListComp comprehension keyword Add Sub Mult FloorDiv Mod USub Not And Or Eq NotEq Lt LtE Gt GtE In NotIn Is
IsNot""".split()

BUILT_IN = """len range enumerate zip min max sum abs sorted reversed int str bool list tuple dict set isinstance ord any all
divmod Exception ValueError KeyError True False None""".split()

METHODS = """append clear copy count endswith extend find get index insert items join keys pop remove replace reverse
setdefault split startswith strip update values""".split()

WORDS = """type typing typing_extensions enum Enum IntEnum StrEnum Flag IntFlag Generic Protocol ABC ABCMeta namedtuple
NamedTuple TypedDict TYPE_CHECKING abstractmethod""".split()

NOT_NAMES = """register mro elements open input id hash next map format sort args eval exec dir vars super help exit quit
print""".split()


def names_in(node):
    for part in ast.walk(node):
        if isinstance(part, ast.Name):
            yield part.id
        elif isinstance(part, ast.Attribute):
            yield part.attr
        elif isinstance(part, ast.arg):
            yield part.arg
        elif isinstance(part, (ast.FunctionDef, ast.ClassDef)):
            yield part.name


class Form(unittest.TestCase):
    def setUp(self):
        self.texts = {path.name: path.read_text(encoding="ascii") for path in sorted(PACKAGE.glob("*.py"))}
        self.trees = {name: ast.parse(text) for name, text in self.texts.items()}

    def parts(self):
        for name, tree in self.trees.items():
            for part in ast.walk(tree):
                yield name, part

    def test_files(self):
        self.assertIn("__init__.py", self.texts)
        self.assertIn("graph.py", self.texts)
        for path in PACKAGE.iterdir():
            if path.name != "__pycache__":
                self.assertRegex(path.name, r"\A(__init__|[a-z][a-z0-9_]*)\.py\Z")

    def test_sizes_and_signs(self):
        for name, text in self.texts.items():
            self.assertIsNone(re.search(r"[^ -~\n]", text), name)
            self.assertLessEqual(len(text.splitlines()), 400, name)
            self.assertLessEqual(max(len(line) for line in text.splitlines()), 120, name)
        for name, part in self.parts():
            if isinstance(part, ast.FunctionDef):
                self.assertLessEqual(part.end_lineno - part.lineno + 1, 40, part.name)

    def test_words(self):
        for name, text in self.texts.items():
            for word in WORDS:
                self.assertIsNone(re.search(r"\b" + word + r"\b", text), (name, word))

    def test_statements_and_expressions(self):
        for name, part in self.parts():
            self.assertIn(type(part).__name__, KINDS, (name, getattr(part, "lineno", 0)))
            if isinstance(part, ast.Assign):
                self.assertEqual(len(part.targets), 1)
                self.assertNotIsInstance(part.targets[0], (ast.Tuple, ast.List))
            if isinstance(part, ast.ListComp):
                self.assertEqual(len(part.generators), 1)
                self.assertLessEqual(len(part.generators[0].ifs), 1)
            if isinstance(part, (ast.For, ast.While)):
                self.assertEqual(part.orelse, [])
            if isinstance(part, (ast.FunctionDef, ast.ClassDef)):
                self.assertEqual(part.decorator_list, [])

    def test_imports_are_the_packages_own(self):
        for name, tree in self.trees.items():
            for part in ast.walk(tree):
                if isinstance(part, ast.ImportFrom):
                    self.assertIn(part, tree.body, name)
                    self.assertEqual(part.level, 0)
                    folder, file = part.module.split(".")
                    self.assertEqual(folder, "typegraph")
                    defined = [top for other in self.trees[file + ".py"].body for top in self.bound(other)]
                    for alias in part.names:
                        self.assertIn(alias.name, defined)

    def bound(self, statement):
        if isinstance(statement, (ast.FunctionDef, ast.ClassDef)):
            return [statement.name]
        return [target.id for target in statement.targets] if isinstance(statement, ast.Assign) else []

    def test_no_two_files_draw_from_one_another(self):
        draws = {name: [part.module.split(".")[1] + ".py" for part in tree.body if isinstance(part, ast.ImportFrom)]
                 for name, tree in self.trees.items()}
        while draws:
            free = [name for name in draws if not any(other in draws for other in draws[name])]
            self.assertTrue(free, draws)
            draws = {name: others for name, others in draws.items() if name not in free}

    def test_names(self):
        own = {name for tree in self.trees.values() for name in names_in(tree)}
        for name in own:
            self.assertRegex(name, r"\A([a-zA-Z][a-zA-Z0-9_]*|__init__)\Z")
            self.assertNotIn(name, NOT_NAMES)
            self.assertTrue(name in BUILT_IN + ["__init__"] or not hasattr(builtins, name), name)

    def test_methods(self):
        own = [part.name for name, part in self.parts() if isinstance(part, ast.FunctionDef)]
        for name, part in self.parts():
            if isinstance(part, ast.Call) and isinstance(part.func, ast.Attribute):
                self.assertIn(part.func.attr, METHODS + own, (name, part.lineno))

    def test_sets_are_sorted_on_the_spot(self):
        for name, tree in self.trees.items():
            sets = [part for part in ast.walk(tree) if isinstance(part, ast.Name) and part.id == "set"]
            held = [part.args[0].func for part in ast.walk(tree)
                    if isinstance(part, ast.Call) and isinstance(part.func, ast.Name)
                    and part.func.id in ["sorted", "len"] and part.args and isinstance(part.args[0], ast.Call)]
            for part in sets:
                self.assertIn(part, held, (name, part.lineno))

    def test_the_top_of_a_file_keeps_nothing(self):
        for name, tree in self.trees.items():
            self.assertIsNotNone(ast.get_docstring(tree), name)
            bound = [top for statement in tree.body for top in self.bound(statement)]
            self.assertEqual(len(bound), len(set(bound)), name)
            for statement in tree.body[1:]:
                self.assertIsInstance(statement, (ast.ImportFrom, ast.FunctionDef, ast.ClassDef, ast.Assign))
                if isinstance(statement, ast.Assign):
                    ast.literal_eval(statement.value)


if __name__ == "__main__":
    unittest.main()
