"""Rules of the language in which the package is written, as far as they are plain to see."""

import ast
import builtins
import pathlib
import unittest

FOLDER = pathlib.Path(__file__).resolve().parent.parent / "spinemarks"
BUILTINS = set(
    "len range enumerate zip min max sum abs sorted reversed int str bool list tuple dict set isinstance ord repr "
    "any all divmod Exception ValueError TypeError KeyError IndexError LookupError".split()
)
METHODS = set("__init__ __eq__ __repr__ __str__ __len__".split())
BARRED = set(
    "typing typing_extensions enum Enum IntEnum Flag Generic Protocol ABC namedtuple NamedTuple TypedDict "
    "register mro elements open input law version_info with_traceback add_note".split()
)
STATEMENTS = (ast.FunctionDef, ast.ClassDef, ast.ImportFrom, ast.Assign, ast.Expr)
NEVER = (
    ast.Lambda, ast.Global, ast.AsyncFunctionDef, ast.Await, ast.Import, ast.Div, ast.GeneratorExp, ast.SetComp,
    ast.Set, ast.AnnAssign, ast.Yield, ast.YieldFrom,
)


def files():
    return sorted(FOLDER.glob("*.py"))


def trees():
    return [(path.name, ast.parse(path.read_text())) for path in files()]


def defined(tree):
    """The names that a file binds at its top, but for what it imports."""
    names = [node.name for node in tree.body if isinstance(node, (ast.FunctionDef, ast.ClassDef))]
    for node in tree.body:
        if isinstance(node, ast.Assign):
            names += [target.id for target in node.targets]
    return names


def bound(tree):
    """The names of a file's parameters, variables, functions, classes and imports."""
    names = [node.id for node in ast.walk(tree) if isinstance(node, ast.Name) and isinstance(node.ctx, ast.Store)]
    names += [node.arg for node in ast.walk(tree) if isinstance(node, ast.arg)]
    return names + defined(tree) + imported(tree)


def imported(tree):
    return [name.name for node in tree.body if isinstance(node, ast.ImportFrom) for name in node.names]


def is_named(thing):
    """Whether it is a name, or an attribute off a name."""
    return isinstance(thing.value if isinstance(thing, ast.Attribute) else thing, ast.Name)


def is_plain(thing):
    """Whether it is named, a literal, or a list, tuple or dict of such."""
    if isinstance(thing, (ast.List, ast.Tuple)):
        return all(is_plain(part) for part in thing.elts)
    if isinstance(thing, ast.Dict):
        return all(part is not None and is_plain(part) for part in thing.keys + thing.values)
    return is_named(thing) or isinstance(thing, ast.Constant)


class Language(unittest.TestCase):
    def test_the_folder_has_nothing_else(self):
        names = [path.name for path in FOLDER.iterdir() if path.name != "__pycache__"]
        self.assertEqual(sorted(names), [path.name for path in files()])

    def test_sizes_and_characters(self):
        for path in files():
            text = path.read_text()
            self.assertTrue(all(sign == "\n" or " " <= sign <= "~" for sign in text), path.name)
            self.assertLess(len(text.splitlines()), 400, path.name)
            self.assertTrue(all(len(line) <= 120 for line in text.splitlines()), path.name)

    def test_sizes_of_functions(self):
        for name, tree in trees():
            for node in ast.walk(tree):
                if isinstance(node, ast.FunctionDef):
                    self.assertLessEqual(node.end_lineno - node.lineno, 39, (name, node.name))
                    self.assertEqual(node.decorator_list, [])

    def test_imports_name_the_file_that_defines_the_name(self):
        tops = {name: defined(tree) for name, tree in trees()}
        for name, tree in trees():
            for node in tree.body:
                if isinstance(node, ast.ImportFrom):
                    package, _, file = node.module.partition(".")
                    self.assertEqual(package, "spinemarks", name)
                    for word in node.names:
                        self.assertIn(word.name, tops[file + ".py"], name)
                        self.assertIsNone(word.asname)
            self.assertEqual(len(set(defined(tree) + imported(tree))), len(defined(tree) + imported(tree)), name)

    def test_statements_and_expressions(self):
        for name, tree in trees():
            self.assertTrue(all(isinstance(node, STATEMENTS) for node in tree.body), name)
            for node in ast.walk(tree):
                self.assertNotIsInstance(node, NEVER, name)
                if isinstance(node, ast.Constant) and isinstance(node.value, str):
                    self.assertNotIn("\x25", node.value, name)
                if isinstance(node, ast.Constant):
                    self.assertNotIsInstance(node.value, float, name)

    def test_names(self):
        own = set(dir(builtins))
        for name, tree in trees():
            self.assertEqual([word for word in bound(tree) if word in own or word in BARRED], [], name)
            read = {node.id for node in ast.walk(tree) if isinstance(node, ast.Name)} & own
            self.assertEqual(sorted(read - BUILTINS), [], name)

    def test_no_variable_has_the_name_of_an_import_or_a_class(self):
        for name, tree in trees():
            taken = set(imported(tree)) | {node.name for node in tree.body if isinstance(node, ast.ClassDef)}
            for node in ast.walk(tree):
                if isinstance(node, ast.arg):
                    self.assertNotIn(node.arg, taken, name)
                if isinstance(node, ast.Name) and isinstance(node.ctx, ast.Store):
                    self.assertNotIn(node.id, taken, name)

    def test_methods(self):
        for name, tree in trees():
            for node in ast.walk(tree):
                if isinstance(node, ast.FunctionDef) and node.name.startswith("__"):
                    self.assertIn(node.name, METHODS, name)

    def test_stars_in_calls_stand_before_plain_things(self):
        for name, tree in trees():
            for node in ast.walk(tree):
                if isinstance(node, ast.Call):
                    stars = [thing.value for thing in node.args if isinstance(thing, ast.Starred)]
                    pairs = [keyword.value for keyword in node.keywords if keyword.arg is None]
                    self.assertTrue(all(is_plain(thing) for thing in stars), (name, node.lineno))
                    self.assertTrue(all(is_named(thing) for thing in pairs), (name, node.lineno))


if __name__ == "__main__":
    unittest.main()
