"""Those rules of the language that can be seen from the form of the code alone."""

import ast
import builtins
import pathlib
import re
import unittest

PACKAGE = pathlib.Path(__file__).resolve().parent.parent / "finestairs"
FILES = sorted(PACKAGE.glob("*.py"))
LIBRARY = {"heapq", "math", "itertools", "collections"}
BUILTINS = set(
    "len range enumerate zip min max sum abs sorted reversed int str bool list tuple dict set isinstance ord repr any "
    "all divmod pow Exception ValueError TypeError KeyError IndexError LookupError ZeroDivisionError ArithmeticError "
    "OverflowError RuntimeError NotImplementedError AttributeError StopIteration NotImplemented map iter next "
    "property staticmethod classmethod super getattr hasattr setattr".split()
)
DOUBLE = set(
    "init eq repr str len enter exit call iter lt le gt ge ne add sub mul floordiv mod pow and or xor lshift rshift "
    "radd rsub rmul rfloordiv rmod rand ror rxor neg pos invert abs bool contains getitem setitem".split()
)
BARRED_WORDS = re.compile(
    r"\b(typing|typing_extensions|enum|Enum|Flag|Generic|Protocol|ABC|namedtuple|NamedTuple|TypedDict)\b"
    r"|dataclass|overload|contextmanager|\(type\)|Meta|metaclass=|_wall"
)
BARRED_NAMES = set(
    "register mro elements open input law version_info with_traceback add_note breakpoint compile delattr dir eval "
    "exec exit gc globals help id locals os quit type vars sys".split()
)
STATEMENTS = (ast.Global, ast.AsyncFunctionDef, ast.AsyncFor, ast.AsyncWith, ast.Await, ast.Div, ast.Import)


def bound(tree):
    """All names that a file gives a meaning."""
    names = set()
    for node in ast.walk(tree):
        if isinstance(node, (ast.FunctionDef, ast.ClassDef)):
            names.add(node.name)
        elif isinstance(node, ast.arg):
            names.add(node.arg)
        elif isinstance(node, ast.Name) and not isinstance(node.ctx, ast.Load):
            names.add(node.id)
        elif isinstance(node, ast.alias):
            names.add(node.asname or node.name)
    return names


class LanguageTest(unittest.TestCase):
    def each_node(self, kinds):
        for file in FILES:
            for node in ast.walk(ast.parse(file.read_text())):
                if isinstance(node, kinds):
                    yield file.name, node

    def test_files_and_characters(self):
        others = [path.name for path in PACKAGE.iterdir() if path not in FILES and path.name != "__pycache__"]
        self.assertEqual(others, [])
        for file in FILES:
            text = file.read_text()
            self.assertEqual([mark for mark in text if mark != "\n" and not " " <= mark <= "~"], [])
            self.assertLess(text.count("\n"), 400)
            self.assertEqual([line for line in text.split("\n") if len(line) > 120], [])
            self.assertIsNone(BARRED_WORDS.search(text), file.name)

    def test_functions_are_small(self):
        for name, node in self.each_node(ast.FunctionDef):
            self.assertLessEqual(node.end_lineno - node.lineno + 1, 40, (name, node.name))

    def test_statements(self):
        self.assertEqual([(name, node) for name, node in self.each_node(STATEMENTS)], [])
        for name, node in self.each_node(ast.Constant):
            self.assertNotIsInstance(node.value, (float, complex), name)
            self.assertFalse(isinstance(node.value, str) and chr(37) in node.value, name)

    def test_imports(self):
        for name, node in self.each_node(ast.ImportFrom):
            self.assertEqual(node.level, 0)
            self.assertTrue(node.module.startswith("finestairs.") or node.module in LIBRARY, name)
            self.assertNotIn("*", [alias.name for alias in node.names])
            if node.module.startswith("finestairs."):
                source = PACKAGE / (node.module.split(".")[1] + ".py")
                for alias in node.names:
                    self.assertIn(alias.name, [getattr(part, "name", None) for part in self.top(source)])

    def top(self, file):
        return ast.parse(file.read_text()).body

    def test_builtins_and_names(self):
        for file in FILES:
            tree = ast.parse(file.read_text())
            own = bound(tree)
            read = {node.id for node in ast.walk(tree) if isinstance(node, ast.Name)} - own
            self.assertEqual(read - BUILTINS, set(), file.name)
            self.assertEqual((own - {"_"}) & set(dir(builtins)), set(), file.name)
            self.assertEqual(own & BARRED_NAMES, set(), file.name)
            for name in own:
                double = name[2:-2] if name.startswith("__") and name.endswith("__") else None
                self.assertTrue(double in DOUBLE if double else re.fullmatch("_|_?[A-Za-z][A-Za-z0-9_]*", name), name)

    def test_names_stand_for_one_thing(self):
        for file in FILES:
            tree = ast.parse(file.read_text())
            imports = [alias.name for node in tree.body if isinstance(node, ast.ImportFrom) for alias in node.names]
            own = [node.name for node in tree.body if isinstance(node, (ast.FunctionDef, ast.ClassDef))]
            own += [part.id for node in tree.body if isinstance(node, ast.Assign) for part in node.targets]
            self.assertEqual(len(set(imports + own)), len(imports + own), file.name)
            classes = {node.name for node in tree.body if isinstance(node, ast.ClassDef)}
            inner = set()
            for node in ast.walk(tree):
                if isinstance(node, ast.arg):
                    inner.add(node.arg)
                elif isinstance(node, ast.Name) and not isinstance(node.ctx, ast.Load):
                    inner.add(node.id)
            self.assertEqual(inner & (set(imports) | classes), set(), file.name)
            read = {node.id for node in ast.walk(tree) if isinstance(node, ast.Name)}
            self.assertEqual(set(imports) - read, set(), file.name)

    def test_nothing_goes_over_what_is_made_on_the_way(self):
        kinds = (ast.GeneratorExp, ast.Yield, ast.YieldFrom, ast.Set, ast.SetComp, ast.NamedExpr)
        self.assertEqual([(name, node.lineno) for name, node in self.each_node(kinds)], [])

    def test_no_file_needs_itself(self):
        needs = {}
        for file in FILES:
            found = [node.module for node in ast.parse(file.read_text()).body if isinstance(node, ast.ImportFrom)]
            needs[file.stem] = [module.split(".")[1] for module in found if module.startswith("finestairs.")]
        while needs:
            free = [name for name in needs if not any(other in needs for other in needs[name])]
            self.assertNotEqual(free, [], needs)
            needs = {name: needs[name] for name in needs if name not in free}

    def test_no_name_is_a_method_and_an_attribute(self):
        methods, attributes = set(), set()
        for _, node in self.each_node(ast.ClassDef):
            methods |= {part.name for part in node.body if isinstance(part, ast.FunctionDef)}
        for _, node in self.each_node(ast.Attribute):
            if not isinstance(node.ctx, ast.Load):
                attributes.add(node.attr)
        self.assertEqual(methods & attributes, set())

    def test_decorators_and_handlers(self):
        for name, node in self.each_node(ast.FunctionDef):
            for sign in node.decorator_list:
                known = getattr(sign, "id", None) in ("property", "staticmethod", "classmethod")
                self.assertTrue(known or getattr(sign, "attr", None) == "setter", (name, node.name))
        for name, node in self.each_node(ast.ExceptHandler):
            self.assertIsNotNone(node.type, name)

    def test_rows_of_exit_are_plain(self):
        for name, node in self.each_node(ast.FunctionDef):
            if node.name == "__exit__":
                for row in ast.walk(ast.Module(node.body, [])):
                    self.assertNotIsInstance(row, (ast.Call, ast.BinOp, ast.Return, ast.Raise, ast.Subscript, ast.For, ast.While), name)
                    if isinstance(row, ast.Compare):
                        self.assertTrue(all(isinstance(sign, (ast.Is, ast.IsNot)) for sign in row.ops))

    def test_what_is_not_needed_is_not_read(self):
        self.assertEqual([name for name, node in self.each_node(ast.Name) if node.id == "_" and isinstance(node.ctx, ast.Load)], [])

    def test_is_stands_beside_plain_values_alone(self):
        for name, node in self.each_node(ast.Compare):
            for sign, other in zip(node.ops, node.comparators):
                if isinstance(sign, (ast.Is, ast.IsNot)):
                    self.assertIsInstance(other, ast.Constant, name)
                    self.assertIn(other.value, (None, True, False))


if __name__ == "__main__":
    unittest.main()
