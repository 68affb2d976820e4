"""The form of the package's files, as far as a few plain rules of the language subset go."""

import ast
import builtins
import pathlib
import re
import unittest
import warnings

PACKAGE = pathlib.Path(__file__).resolve().parent.parent / "gridscope"
BARRED = re.compile(
    r"\b(type|typing|typing_extensions|enum|Enum|IntEnum|StrEnum|Flag|IntFlag|Generic|Protocol|ABC|ABCMeta|"
    r"namedtuple|NamedTuple|TypedDict|TYPE_CHECKING|abstractmethod)\b|dataclass|overload|contextmanager")


def files():
    return sorted(path for path in PACKAGE.rglob("*") if "__pycache__" not in path.parts)


def trees():
    return [(path.name, ast.parse(path.read_text("ascii"))) for path in files()]


class Form(unittest.TestCase):
    def test_files(self):
        names = [path.name for path in files()]
        self.assertIn("__init__.py", names)
        for name in names:
            self.assertRegex(name, r"^[a-z0-9_]+\.py$")

    def test_signs(self):
        for path in files():
            for sign in set(path.read_text("utf-8")):
                self.assertTrue(sign == "\n" or " " <= sign <= "~", (path.name, sign))

    def test_lengths(self):
        for path in files():
            rows = path.read_text("ascii").split("\n")
            self.assertLessEqual(len(rows), 400, path.name)
            self.assertLessEqual(max(map(len, rows)), 120, path.name)
        for name, tree in trees():
            for node in ast.walk(tree):
                if isinstance(node, ast.FunctionDef):
                    self.assertLessEqual(node.end_lineno - node.lineno + 1, 40, (name, node.name))

    def test_barred_words(self):
        for path in files():
            self.assertIsNone(BARRED.search(path.read_text("ascii")), path.name)

    def test_imports(self):
        for name, tree in trees():
            for node in ast.walk(tree):
                self.assertFalse(isinstance(node, ast.Import) and name != "__main__.py", name)
                if isinstance(node, ast.ImportFrom):
                    self.assertEqual(node.level, 0, name)
                    self.assertTrue(node.module == "__future__" or node.module.startswith("gridscope."), name)

    def test_no_circles_of_imports(self):
        wanted = {}
        for name, tree in trees():
            wanted["gridscope." + name[:-3]] = {node.module for node in ast.walk(tree)
                                                if isinstance(node, ast.ImportFrom)}
        while wanted:
            free = [name for name, others in wanted.items() if not others & set(wanted)]
            self.assertNotEqual(free, [], wanted)
            for name in free:
                del wanted[name]

    def test_no_name_is_a_method_here_and_an_attribute_there(self):
        methods, attributes = set(), set()
        for _, tree in trees():
            for node in ast.walk(tree):
                if isinstance(node, ast.ClassDef):
                    methods.update(each.name for each in node.body if isinstance(each, ast.FunctionDef))
                if isinstance(node, ast.Attribute) and isinstance(node.ctx, ast.Store):
                    attributes.add(node.attr)
        self.assertEqual(methods & attributes, set())

    def test_no_local_name_is_that_of_an_import_or_a_class(self):
        for name, tree in trees():
            taken = {each.name for node in ast.walk(tree) if isinstance(node, ast.ImportFrom) for each in node.names}
            taken |= {node.name for node in ast.walk(tree) if isinstance(node, ast.ClassDef)} | set(dir(builtins))
            for node in ast.walk(tree):
                if isinstance(node, ast.arg):
                    self.assertNotIn(node.arg, taken, name)
                if isinstance(node, ast.Name) and isinstance(node.ctx, ast.Store):
                    self.assertNotIn(node.id, taken, name)

    def test_told_signs_assign_nothing(self):
        """Methods like __eq__ and __str__ are questions that change nothing."""
        for name, tree in trees():
            for node in ast.walk(tree):
                if isinstance(node, ast.FunctionDef) and node.name in ("__eq__", "__repr__", "__str__", "__len__"):
                    self.assertIsInstance(node.body[-1], ast.Return, name)
                    self.assertFalse(any(isinstance(each, ast.Assign) for each in ast.walk(node)), (name, node.name))

    def test_stars_stand_before_names(self):
        for name, tree in trees():
            for node in ast.walk(tree):
                if isinstance(node, ast.Call):
                    for each in node.args:
                        if isinstance(each, ast.Starred):
                            self.assertIsInstance(each.value, (ast.Name, ast.Attribute, ast.Tuple, ast.List),
                                                  (name, node.lineno))

    def test_no_warnings(self):
        with warnings.catch_warnings():
            warnings.simplefilter("error")
            for path in files():
                compile(path.read_text("ascii"), str(path), "exec")


if __name__ == "__main__":
    unittest.main()
