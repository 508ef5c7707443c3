"""Those rules of the language that are quickly checked: L1, L2, L5, L8 to L10, L12, L14, L16 to L18, L20, L25."""

import ast
import os
import re
import unittest

FOLDER = os.path.join(os.path.dirname(os.path.dirname(os.path.abspath(__file__))), "slackcache")

BARRED_WORDS = (
    "type", "typing", "typing_extensions", "enum", "Enum", "IntEnum", "StrEnum", "Flag", "IntFlag", "Generic",
    "Protocol", "ABC", "ABCMeta", "namedtuple", "NamedTuple", "TypedDict", "TYPE_CHECKING", "abstractmethod",
)
BARRED_NAMES = (
    "register", "mro", "elements", "open", "input", "law", "version_info", "with_traceback", "add_note", "attrgetter",
    "breakpoint", "builtins", "compile", "copyright", "credits", "delattr", "dir", "eval", "exec", "exit", "gc",
    "getattr", "globals", "hasattr", "help", "id", "importlib", "license", "locals", "methodcaller", "os", "quit",
    "setattr", "super", "vars", "hash", "map", "filter", "round", "print", "callable", "format", "sys", "float",
)
DOUBLE = (
    "__init__", "__eq__", "__len__", "__contains__", "__getitem__", "__iter__", "__rshift__", "__or__", "__and__",
    "__bool__", "__call__", "__invert__",
)


def sources():
    found = {}
    for name in sorted(os.listdir(FOLDER)):
        if name != "__pycache__":
            with open(os.path.join(FOLDER, name), encoding="utf-8", newline="") as file:
                found[name] = file.read()
    return found


class LanguageTest(unittest.TestCase):
    def test_files_and_characters(self):
        for name, text in sources().items():
            self.assertRegex(name, r"^[a-z0-9_]+\.py$")
            lines = text.split("\n")
            self.assertLessEqual(len(lines), 399, name)
            for line in lines:
                self.assertLessEqual(len(line), 120, line)
                self.assertRegex(line, r"^[ -~]*$")
            self.assertEqual(re.findall(r"%", text), [], name)
            words = re.findall(r"[A-Za-z0-9_]+", text)
            self.assertEqual([word for word in words if word in BARRED_WORDS], [], name)
            for part in ("dataclass", "overload", "contextmanager"):
                self.assertNotIn(part, text)

    def test_functions_have_at_most_forty_lines(self):
        for name, node in self.nodes():
            if isinstance(node, ast.FunctionDef):
                self.assertLessEqual(node.end_lineno - node.lineno + 1, 40, (name, node.name))

    def test_names(self):
        for name, node in self.nodes():
            given = []
            if isinstance(node, ast.Name):
                given = [node.id]
            elif isinstance(node, (ast.FunctionDef, ast.ClassDef)):
                given = [node.name]
            elif isinstance(node, ast.arg):
                given = [node.arg]
            elif isinstance(node, ast.Attribute):
                given = [node.attr]
            for word in given:
                self.assertNotIn(word, BARRED_NAMES, name)
                if word not in DOUBLE:
                    self.assertRegex(word, r"^[A-Za-z][A-Za-z0-9_]*$")

    def test_imports_name_files_of_the_package_without_a_circle(self):
        above = {}
        for name, text in sources().items():
            body = ast.parse(text).body
            for node in ast.walk(ast.parse(text)):
                self.assertNotIsInstance(node, ast.Import)
                if isinstance(node, ast.ImportFrom):
                    self.assertEqual(node.level, 0)
                    self.assertTrue(node.module.startswith("slackcache."), name)
                    above.setdefault(name, set()).add(node.module.split(".")[1] + ".py")
            imports = [isinstance(node, ast.ImportFrom) for node in body[1:]]
            self.assertEqual(imports, sorted(imports, reverse=True), name)
        while above:
            free = [name for name in above if not any(other in above for other in above[name])]
            self.assertTrue(free, above)
            for name in free:
                del above[name]

    def test_no_name_is_a_method_here_and_an_attribute_there(self):
        methods, attributes = set(), set()
        for _, node in self.nodes():
            if isinstance(node, ast.ClassDef):
                methods.update(row.name for row in node.body if isinstance(row, ast.FunctionDef))
            if isinstance(node, ast.Attribute) and isinstance(node.ctx, ast.Store):
                attributes.add(node.attr)
        self.assertEqual(methods & attributes, set())

    def test_statements(self):
        for name, node in self.nodes():
            self.assertNotIsInstance(
                node, (ast.Global, ast.AsyncFunctionDef, ast.Await, ast.AnnAssign, ast.Set, ast.Div, ast.TryStar), name
            )
            if isinstance(node, ast.Compare) and any(isinstance(sign, (ast.Is, ast.IsNot)) for sign in node.ops):
                self.assertTrue(all(isinstance(row, ast.Constant) for row in node.comparators), name)
            if isinstance(node, ast.Raise) and node.exc is not None:
                self.assertIsInstance(node.exc, ast.Call)
                self.assertIsInstance(node.exc.func, ast.Name)
            if isinstance(node, ast.ExceptHandler):
                self.assertIsNotNone(node.type)

    def test_classes_with_an_index_say_that_they_are_not_iterated_over(self):
        for name, node in self.nodes():
            if isinstance(node, ast.ClassDef):
                methods = [row.name for row in node.body if isinstance(row, ast.FunctionDef)]
                self.assertEqual("__getitem__" in methods, "__iter__" in methods, (name, node.name))

    def test_calls_beside_operators_and_comparisons(self):
        for name, node in self.nodes():
            if isinstance(node, ast.Call) and isinstance(node.func, ast.Name):
                if node.func.id in ("sum", "min", "max", "any", "all", "sorted"):
                    self.assertFalse(any(isinstance(row, ast.GeneratorExp) for row in node.args), name)
            if isinstance(node, ast.Call) and isinstance(node.func, ast.Attribute):
                self.assertNotIn(node.func.attr, ("sort", "format"), name)

    def test_properties_and_operators_call_nothing_that_they_are_passed_or_hold(self):
        seen = 0
        for name, node in self.nodes():
            if not isinstance(node, ast.FunctionDef):
                continue
            is_property = any(isinstance(row, ast.Name) and row.id == "property" for row in node.decorator_list)
            if not is_property and node.name not in DOUBLE[1:] or node.name == "__call__":
                continue
            seen += 1
            for call in [row for row in ast.walk(node) if isinstance(row, ast.Call)]:
                if isinstance(call.func, ast.Attribute):
                    # Only own methods, off the object itself.
                    self.assertEqual(ast.dump(call.func.value), ast.dump(ast.parse("self").body[0].value), node.name)
        self.assertGreater(seen, 50)

    def nodes(self):
        for name, text in sources().items():
            for node in ast.walk(ast.parse(text)):
                yield name, node


if __name__ == "__main__":
    unittest.main()
