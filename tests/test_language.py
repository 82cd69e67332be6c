"""The rules of LANGUAGE.md that a plain look at the files can tell. It does not tell all of them."""

import ast
import builtins
import pathlib
import re
import unittest
import warnings

PACKAGE = pathlib.Path(__file__).resolve().parent.parent / "knotpurse"
BARRED_WORDS = ("type typing typing_extensions enum Enum IntEnum StrEnum Flag IntFlag Generic Protocol ABC ABCMeta "
                "namedtuple NamedTuple TypedDict TYPE_CHECKING abstractmethod").split()
BARRED_NAMES = ("register mro elements open input law version_info with_traceback add_note eval exec getattr setattr "
                "hasattr delattr globals locals vars dir hash id map filter round iter next chr float complex object "
                "frozenset bytearray memoryview print super").split()
DOUBLE = ("__init__",)
BUILTIN_METHODS = ("append", "get", "join", "partition", "pop", "split")


def files():
    return sorted(PACKAGE.glob("*.py"))


class Language(unittest.TestCase):
    def trees(self):
        for path in files():
            yield path, ast.parse(path.read_text())

    def nodes(self, *kinds):
        for path, tree in self.trees():
            for node in ast.walk(tree):
                if isinstance(node, kinds):
                    yield path, node

    def test_files_alone(self):
        for path in PACKAGE.iterdir():
            if path.name != "__pycache__":
                self.assertRegex(path.name, r"\A(__init__|[a-z][a-z0-9_]*)\.py\Z")
        self.assertTrue((PACKAGE / "__init__.py").exists())

    def test_signs_and_sizes(self):
        for path, tree in self.trees():
            text = path.read_text()
            self.assertRegex(text, r"\A[ -~\n]*\Z")
            lines = text.split("\n")
            self.assertLess(len(lines), 400)
            self.assertLessEqual(max([len(line) for line in lines]), 120)
            words = re.findall(r"[A-Za-z0-9_]+", text)
            self.assertEqual([], [word for word in BARRED_WORDS if word in words])
            for part in ["dataclass", "overload", "contextmanager"]:
                self.assertNotIn(part, text)

    def test_small_functions(self):
        for path, node in self.nodes(ast.FunctionDef):
            self.assertLessEqual(node.end_lineno - node.lineno + 1, 40, node.name)
            self.assertEqual([], node.decorator_list)

    def test_imports_of_the_package_alone(self):
        for path, node in self.nodes(ast.Import, ast.ImportFrom):
            self.assertIsInstance(node, ast.ImportFrom)
            self.assertRegex(node.module, r"\Aknotpurse\.[a-z]+\Z")
            self.assertEqual(0, node.level)

    def test_plain_module_level(self):
        allowed = (ast.ImportFrom, ast.FunctionDef, ast.ClassDef, ast.Assign)
        for path, tree in self.trees():
            self.assertIsNotNone(ast.get_docstring(tree))
            for node in tree.body[1:]:
                self.assertIsInstance(node, allowed)

    def test_names(self):
        for path, node in self.nodes(ast.Name, ast.FunctionDef, ast.ClassDef, ast.arg, ast.Attribute):
            name = getattr(node, "id", None) or getattr(node, "name", None) or getattr(node, "arg", None) or node.attr
            self.assertTrue(name in DOUBLE or not name.startswith("_"), name)
            self.assertNotIn(name, BARRED_NAMES)

    def test_no_name_is_a_method_and_a_field(self):
        methods, fields = set(), set()
        for path, node in self.nodes(ast.ClassDef):
            methods |= {one.name for one in node.body if isinstance(one, ast.FunctionDef)}
            fields |= {one.attr for one in ast.walk(node) if isinstance(one, ast.Attribute)
                       and isinstance(one.ctx, ast.Store)}
        self.assertEqual(set(), methods & fields)

    def test_no_points_and_no_sets(self):
        for path, node in self.nodes(ast.Constant, ast.Div, ast.Set, ast.SetComp, ast.Global):
            self.assertIsInstance(node, ast.Constant)
            self.assertNotIsInstance(node.value, (float, complex))
            if isinstance(node.value, str):
                self.assertNotIn("%", node.value)

    def test_is_beside_none_and_truths_alone(self):
        for path, node in self.nodes(ast.Compare):
            for sign, right in zip(node.ops, node.comparators):
                if isinstance(sign, (ast.Is, ast.IsNot)):
                    self.assertTrue(isinstance(right, ast.Constant) and right.value in (None, True, False))

    def test_local_names_are_no_builtins_imports_or_classes(self):
        for path, tree in self.trees():
            taken = set(dir(builtins)) | {one.name for one in tree.body if isinstance(one, ast.ClassDef)}
            taken |= {one.name for node in tree.body if isinstance(node, ast.ImportFrom) for one in node.names}
            for node in ast.walk(tree):
                name = node.arg if isinstance(node, ast.arg) else None
                if isinstance(node, ast.Name) and isinstance(node.ctx, ast.Store):
                    name = node.id
                if isinstance(node, (ast.MatchAs, ast.MatchStar)):
                    name = node.name
                self.assertNotIn(name, taken, path.name)

    def test_what_is_read_off_an_object_is_defined_by_a_class(self):
        own, read = set(), set()
        for path, node in self.nodes(ast.ClassDef, ast.Attribute):
            if isinstance(node, ast.ClassDef):
                own |= {one.name for one in node.body if isinstance(one, ast.FunctionDef)}
            elif isinstance(node.ctx, ast.Store):
                own.add(node.attr)
            else:
                read.add(node.attr)
        self.assertEqual(set(), read - own - set(BUILTIN_METHODS))

    def test_own_errors_alone_are_caught_and_made_where_they_are_raised(self):
        own = {node.name for path, node in self.nodes(ast.ClassDef) if path.stem == "errors"}
        for path, node in self.nodes(ast.ExceptHandler, ast.Raise):
            if isinstance(node, ast.ExceptHandler):
                self.assertIn(node.type.id, own)
            else:
                self.assertIn(node.exc.func.id, own)
                self.assertTrue(node.cause is None or node.cause.value is None)

    def test_captured_names_are_read_in_their_case_alone(self):
        for path, function in self.nodes(ast.FunctionDef):
            cases = [node for node in ast.walk(function) if isinstance(node, ast.match_case)]
            captured = {one.name for case in cases for one in ast.walk(case.pattern)
                        if isinstance(one, (ast.MatchAs, ast.MatchStar)) and one.name}
            inside = {id(one) for case in cases for one in ast.walk(case) if isinstance(one, ast.Name)
                      and one.id in {two.name for two in ast.walk(case.pattern)
                                     if isinstance(two, (ast.MatchAs, ast.MatchStar))}}
            for node in ast.walk(function):
                if isinstance(node, ast.Name) and node.id in captured:
                    self.assertIn(id(node), inside, (path.name, function.name, node.id))
                    self.assertIsInstance(node.ctx, ast.Load)
                if isinstance(node, ast.arg):
                    self.assertNotIn(node.arg, captured)

    def test_no_two_files_import_from_each_other(self):
        imports = {path.stem: [node.module.split(".")[1] for node in tree.body if isinstance(node, ast.ImportFrom)]
                   for path, tree in self.trees()}
        done = []
        while len(done) < len(imports):
            free = [file for file in imports if file not in done and all(one in done for one in imports[file])]
            self.assertNotEqual([], free)
            done += free

    def test_no_warnings(self):
        with warnings.catch_warnings():
            warnings.simplefilter("error")
            for path in files():
                compile(path.read_text(), str(path), "exec")


if __name__ == "__main__":
    unittest.main()
