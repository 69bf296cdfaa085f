"""The rules of the language that can be seen in the package's files."""

import ast
import pathlib
import re
import unittest
import warnings

PACKAGE = pathlib.Path(__file__).resolve().parent.parent / "oldestbills"
BUILTINS = set(
    "len range enumerate zip min max sum abs sorted reversed int str bool list tuple dict set isinstance ord repr"
    " any all divmod type ValueError KeyError True False None NotImplemented super property staticmethod".split()
)
BARRED = set(
    "register mro elements open input law version_info with_traceback add_note eval exec globals locals vars dir id"
    " compile breakpoint exit quit help hash filter round float complex slice bytearray memoryview callable".split()
)
METHODS = set("__init__ __eq__ __ne__ __len__ __call__ __iter__ __contains__ __getitem__ __add__ __neg__".split())
DECORATORS = r"^(property|staticmethod|classmethod|[a-z_]+\.setter)$"
LIBRARY = ("heapq", "math", "itertools", "collections")
WORDS = ("typing", "enum", "Enum", "Flag", "Generic", "Protocol", "ABC", "namedtuple", "dataclass", "overload")


def files():
    return sorted(PACKAGE.rglob("*.py"))


def trees():
    return [(path, ast.parse(path.read_text(encoding="utf-8"))) for path in files()]


def nodes(*kinds):
    return [(path.name, node) for path, tree in trees() for node in ast.walk(tree) if isinstance(node, kinds)]


def names():
    """All names of the package: of variables, attributes, parameters, functions, classes, keywords."""
    for name, node in nodes(ast.Name, ast.Attribute, ast.arg, ast.FunctionDef, ast.ClassDef, ast.keyword):
        for field in ("id", "attr", "arg", "name"):
            if isinstance(getattr(node, field, None), str):
                yield name, getattr(node, field)


class LanguageTest(unittest.TestCase):
    def test_the_folder_holds_python_files_alone(self):
        held = [path for path in PACKAGE.rglob("*") if "__pycache__" not in path.parts]
        self.assertEqual(sorted(held), files())
        self.assertIn(PACKAGE / "__init__.py", held)
        for path in files():
            self.assertRegex(path.name, r"^[a-z_][a-z0-9_]*\.py$")

    def test_sizes_and_characters(self):
        for path in files():
            rows = path.read_text(encoding="utf-8").split("\n")
            self.assertLessEqual(len(rows), 399, path.name)
            self.assertLessEqual(max(map(len, rows)), 120, path.name)
            self.assertIsNone(re.search(r"[^ -~\n]", "\n".join(rows)), path.name)
        for name, node in nodes(ast.FunctionDef):
            self.assertLessEqual(node.end_lineno - node.lineno + 1, 40, (name, node.name))

    def test_no_file_warns(self):
        with warnings.catch_warnings():
            warnings.simplefilter("error")
            for path in files():
                compile(path.read_text(encoding="utf-8"), path.name, "exec")

    def test_statements_and_expressions_outside_of_the_language(self):
        barred = (
            ast.AsyncFunctionDef, ast.AsyncFor, ast.AsyncWith, ast.Await, ast.Div, ast.MatMult, ast.Import, ast.TryStar,
        )
        found = [(name, ast.dump(node)) for name, node in nodes(*barred) if name != "__main__.py"]
        self.assertEqual(found, [])
        for name, node in nodes(ast.FunctionDef, ast.ClassDef):
            told = [ast.unparse(decorator) for decorator in node.decorator_list]
            self.assertEqual([word for word in told if not re.match(DECORATORS, word)], [], (name, node.name))

    def test_imports(self):
        for name, node in nodes(ast.ImportFrom):
            if node.module in LIBRARY:
                continue
            self.assertEqual((node.level, node.module.split(".")[0]), (0, "oldestbills"), name)
            home = PACKAGE / (node.module.split(".")[1] + ".py")
            self.assertTrue(home.exists(), (name, node.module))
            rows = ast.parse(home.read_text()).body
            defined = [row.name for row in rows if hasattr(row, "name")]
            defined += [target.id for row in rows if isinstance(row, ast.Assign) for target in row.targets]
            for alias in node.names:
                self.assertIsNone(alias.asname)
                self.assertIn(alias.name, defined, name)

    def test_names(self):
        for name, word in names():
            self.assertNotIn(word, BARRED, name)
            if word not in METHODS:
                self.assertRegex(word, r"^_?[A-Za-z][A-Za-z0-9_]*$|^_$", name)
                self.assertIsNone(re.match(r"_(wall|pe_|dcw_|enum_|cm_|twin_re_|lay_|law_|stub_|sre|cold|record|outside)", word))

    def test_no_name_has_another_meaning_than_a_builtin_or_an_import(self):
        for path, tree in trees():
            imported = [alias.name for row in tree.body if isinstance(row, ast.ImportFrom) for alias in row.names]
            bound = [node.id for node in ast.walk(tree) if isinstance(node, ast.Name) and isinstance(node.ctx, ast.Store)]
            bound += [node.arg for node in ast.walk(tree) if isinstance(node, ast.arg)]
            bound += [row.name for row in tree.body if hasattr(row, "name")]
            self.assertEqual([word for word in bound if word in imported or word in BUILTINS], [], path.name)

    def test_strings_and_words(self):
        for name, node in nodes(ast.Constant):
            self.assertNotIsInstance(node.value, (float, complex), name)
            if isinstance(node.value, str):
                self.assertNotIn("%", node.value, name)
                self.assertIsNone(re.search(r"\b(" + "|".join(WORDS) + r")\b", node.value), name)

    def test_nothing_that_a_package_with_operators_may_not_have(self):
        self.assertEqual(nodes(ast.GeneratorExp, ast.AugAssign, ast.Yield, ast.YieldFrom, ast.Match, ast.Global), [])
        for name, node in nodes(ast.Attribute):
            self.assertNotIn(node.attr, ("sort", "keys", "format"), name)
        for name, node in nodes(ast.Call):
            if isinstance(node.func, ast.Name) and node.func.id in ("reversed", "iter", "next", "map", "getattr", "setattr"):
                self.fail((name, node.lineno))

    def test_errors_that_are_caught(self):
        caught = [ast.unparse(node.type) for name, node in nodes(ast.ExceptHandler)]
        self.assertLessEqual(set(caught), {"InvalidWords"})

    def test_classes(self):
        for name, node in nodes(ast.ClassDef):
            methods = [row.name for row in node.body if isinstance(row, ast.FunctionDef)]
            self.assertEqual(len(methods), len(set(methods)), (name, node.name))
            if "__getitem__" in methods:
                self.assertIn("__iter__", methods)
        told = [ast.unparse(node.value) for name, node in nodes(ast.Attribute) if "super" in ast.unparse(node)]
        self.assertLessEqual(set(told), {"super()"})

    def test_what_tells_a_length_or_equality_is_one_return(self):
        for name, node in nodes(ast.FunctionDef):
            if node.name in ("__len__", "__eq__", "__ne__"):
                self.assertEqual([type(row) for row in node.body if not isinstance(row, ast.Expr)], [ast.Return])
            if node.name == "__len__":
                self.assertRegex(ast.unparse(node.body[-1]), r"^return len\(")

    def test_kinds_are_asked_beside_a_class_alone(self):
        for path, tree in trees():
            compared = [node.left for node in ast.walk(tree) if isinstance(node, ast.Compare)]
            asking = [node.func for node in compared if isinstance(node, ast.Call)]
            for node in ast.walk(tree):
                if isinstance(node, ast.Name) and node.id == "type":
                    self.assertTrue(any(node is other for other in asking), (path.name, node.lineno))


if __name__ == "__main__":
    unittest.main()
