"""The rules of the language that can be read off the files."""

import ast
import builtins
import pathlib
import re
import unittest

PACKAGE = pathlib.Path(__file__).resolve().parent.parent / "beadshares"
FILES = sorted(PACKAGE.rglob("*.py"))
TREES = {path: ast.parse(path.read_text("ascii")) for path in FILES}

SPECIAL = set(
    "__init__ __eq__ __repr__ __str__ __len__ __call__ __iter__ __ne__ __getitem__ __setitem__".split()
)
BUILTINS = set(
    "len range enumerate zip min max sum abs sorted reversed int str bool list tuple dict set "
    "isinstance ord repr any all divmod iter next property super".split()
)
WORDS = re.compile(
    r"\b(type|typing|typing_extensions|enum|Enum|IntEnum|StrEnum|Flag|IntFlag|Generic|Protocol|ABC|"
    r"ABCMeta|namedtuple|NamedTuple|TypedDict|TYPE_CHECKING|abstractmethod)\b"
    r"|dataclass|overload|contextmanager"
)
PYTHONS_OWN = vars(builtins)


def nodes(kind):
    for path, tree in TREES.items():
        for node in ast.walk(tree):
            if isinstance(node, kind):
                yield path.name, node


class LanguageTest(unittest.TestCase):
    def test_the_package_holds_plain_files_only(self):
        for path in PACKAGE.rglob("*"):
            if path.name != "__pycache__" and path.suffix != ".pyc":
                self.assertRegex(path.name, r"^[a-z0-9_]+\.py$")

    def test_sizes(self):
        for path in FILES:
            rows = path.read_text("ascii").split("\n")
            self.assertLessEqual(len(rows), 399, path.name)
            self.assertLessEqual(max(len(row) for row in rows), 120, path.name)
        for name, node in nodes(ast.FunctionDef):
            self.assertLessEqual(node.end_lineno - node.lineno + 1, 40, (name, node.name))

    def test_characters_and_words(self):
        for path in FILES:
            text = path.read_text("ascii")
            self.assertIsNone(re.search(r"[^ -~\n]", text), path.name)
            self.assertIsNone(WORDS.search(text), path.name)

    def test_imports_are_from_modules_of_the_package(self):
        for name, node in nodes(ast.ImportFrom):
            self.assertEqual(node.level, 0, name)
            self.assertRegex(node.module, r"^beadshares\.[a-z_]+$", name)
            for alias in node.names:
                self.assertNotEqual(alias.name, "*", name)
        self.assertEqual([name for name, _ in nodes((ast.Import, ast.Global))], [])

    def test_names_are_plain(self):
        told = [(name, node.name) for name, node in nodes((ast.FunctionDef, ast.ClassDef))]
        told += [(name, node.id) for name, node in nodes(ast.Name)]
        told += [(name, node.attr) for name, node in nodes(ast.Attribute)]
        told += [(name, node.arg) for name, node in nodes(ast.arg)]
        for name, word in told:
            if word not in SPECIAL:
                self.assertRegex(word, r"^[A-Za-z][A-Za-z0-9_]*$", name)

    def test_only_these_builtins_are_named(self):
        for name, node in nodes(ast.Name):
            found = PYTHONS_OWN.get(node.id)
            error = isinstance(found, type) and issubclass(found, Exception)
            if node.id in PYTHONS_OWN and not error:
                self.assertIn(node.id, BUILTINS, name)
                self.assertIsInstance(node.ctx, ast.Load, name)

    def test_no_local_name_has_another_meaning_in_its_file(self):
        for path, tree in TREES.items():
            imported = {alias.name for node in ast.walk(tree) if isinstance(node, ast.ImportFrom)
                        for alias in node.names}
            classes = {node.name for node in ast.walk(tree) if isinstance(node, ast.ClassDef)}
            taken = imported | classes | set(PYTHONS_OWN)
            bound = {node.id for node in ast.walk(tree)
                     if isinstance(node, ast.Name) and isinstance(node.ctx, ast.Store)}
            bound |= {node.arg for node in ast.walk(tree) if isinstance(node, ast.arg)}
            bound |= {node.name for node in tree.body if isinstance(node, ast.FunctionDef)}
            self.assertEqual(bound & taken, set(), path.name)

    def test_no_generator_where_a_class_compares(self):
        found = [name for name, _ in nodes((ast.GeneratorExp, ast.Yield, ast.YieldFrom))]
        self.assertEqual(found, [])

    def test_no_file_imports_itself_by_way_of_others(self):
        ahead = {path.stem: [node.module.split(".")[1] for node in tree.body
                             if isinstance(node, ast.ImportFrom)] for path, tree in TREES.items()}
        for first in ahead:
            reached = list(ahead[first])
            for name in reached:
                reached += [other for other in ahead[name] if other not in reached]
            self.assertNotIn(first, reached)

    def test_no_percent_sign_in_a_string_and_no_float(self):
        for name, node in nodes(ast.Constant):
            self.assertNotIsInstance(node.value, float, name)
            if isinstance(node.value, str):
                self.assertNotIn("%", node.value, name)

    def test_what_is_indexed_is_not_walked_over(self):
        for name, node in nodes(ast.ClassDef):
            told = {part.name: part for part in node.body if isinstance(part, ast.FunctionDef)}
            if "__getitem__" in told:
                self.assertIsInstance(told["__iter__"].body[-1], ast.Raise, name)

    def test_sets_stand_where_they_may(self):
        # A set comprehension stands in sorted(..), or it is stored once by a plain statement.
        allowed = []
        for name, node in nodes((ast.Call, ast.Assign)):
            if isinstance(node, ast.Assign):
                allowed.append(node.value)
            elif isinstance(node.func, ast.Name) and node.func.id == "sorted":
                allowed += node.args
        for name, node in nodes((ast.SetComp, ast.Set)):
            self.assertTrue(any(node is other for other in allowed), name)

    def test_python_s_own_errors_are_not_caught(self):
        errors = {node.name for name, node in nodes(ast.ClassDef) if name == "errors.py"}
        for name, node in nodes(ast.ExceptHandler):
            self.assertIn(node.type.id, errors, name)

    def test_no_name_is_a_method_here_and_an_attribute_there(self):
        methods = {part.name for _, node in nodes(ast.ClassDef)
                   for part in node.body if isinstance(part, ast.FunctionDef)}
        stored = {node.attr for _, node in nodes(ast.Attribute)
                  if isinstance(node.ctx, ast.Store)}
        self.assertEqual(methods & stored, set())


if __name__ == "__main__":
    unittest.main()
