"""That the package keeps to the rules of LANGUAGE.md, as far as its syntax tree shows them."""

import ast
import builtins
import os
import re
import unittest
import warnings

PACKAGE = os.path.join(os.path.dirname(os.path.dirname(os.path.abspath(__file__))), "doorwalk")

BUILTINS = set("""len range enumerate zip min max sum abs sorted reversed int str bool list tuple dict set isinstance
    ord repr any all divmod ValueError""".split())
METHODS = set("append copy count extend find get index insert items join keys pop split startswith values".split())
STATEMENTS = (ast.Assign, ast.AugAssign, ast.If, ast.While, ast.For, ast.Return, ast.Break, ast.Continue, ast.Pass,
              ast.Raise, ast.Expr, ast.FunctionDef, ast.ClassDef, ast.ImportFrom)
BARRED_WORDS = re.compile(r"\b(typing|enum|Enum|Generic|Protocol|ABC|namedtuple)\b|dataclass|overload|contextmanager")


def sources():
    """Each file of the package, by its name, with its text."""
    found = {}
    for name in sorted(os.listdir(PACKAGE)):
        if name != "__pycache__":
            with open(os.path.join(PACKAGE, name), encoding="utf-8") as file:
                found[name] = file.read()
    return found


def nodes(text, *kinds):
    return [node for node in ast.walk(ast.parse(text)) if isinstance(node, kinds)]


class Language(unittest.TestCase):
    def test_files(self):
        for name, text in sources().items():
            self.assertRegex(name, r"^[a-z_][a-z0-9_]*\.py$")
            self.assertLessEqual(len(text.splitlines()), 399, name)
            self.assertRegex(text, r"\A[ -~\n]*\Z", name)
            self.assertLessEqual(max(len(line) for line in text.splitlines()), 120, name)

    def test_functions_are_short_and_plain(self):
        for name, text in sources().items():
            for node in nodes(text, ast.FunctionDef):
                self.assertLessEqual(node.end_lineno - node.lineno + 1, 40, (name, node.name))
                self.assertEqual(node.decorator_list, [], (name, node.name))

    def test_no_warnings(self):
        with warnings.catch_warnings():
            warnings.simplefilter("error")
            for name, text in sources().items():
                compile(text, name, "exec")

    def test_statements(self):
        for name, text in sources().items():
            for node in nodes(text, ast.stmt):
                self.assertIsInstance(node, STATEMENTS, (name, node.lineno))

    def test_imports_are_of_the_package_alone(self):
        for name, text in sources().items():
            for node in nodes(text, ast.ImportFrom):
                self.assertEqual(node.level, 0, name)
                self.assertRegex(node.module, r"^doorwalk\.[a-z]+$", name)
                self.assertNotIn("*", [told.name for told in node.names], name)

    def test_names(self):
        for name, text in sources().items():
            own = {node.name for node in nodes(text, ast.FunctionDef, ast.ClassDef)}
            own |= {node.arg for node in nodes(text, ast.arg)}
            own |= {node.id for node in nodes(text, ast.Name) if isinstance(node.ctx, ast.Store)}
            self.assertEqual(own & set(dir(builtins)), set(), name)
            own |= {told.name for node in nodes(text, ast.ImportFrom) for told in node.names}
            read = {node.id for node in nodes(text, ast.Name) if isinstance(node.ctx, ast.Load)}
            self.assertLessEqual(read, own | BUILTINS, name)

    def test_imports_go_one_way(self):
        reached = {}
        for name, text in sources().items():
            reached[name] = {node.module.split(".")[1] + ".py" for node in nodes(text, ast.ImportFrom)}
        for _ in reached:
            for name, others in reached.items():
                reached[name] = others | {further for other in others for further in reached[other]}
        for name, others in reached.items():
            self.assertNotIn(name, others)

    def test_classes(self):
        for name, text in sources().items():
            for kind in nodes(text, ast.ClassDef):
                own = {node.name for node in kind.body if isinstance(node, ast.FunctionDef)}
                given = {node.attr for node in ast.walk(kind) if isinstance(node, ast.Attribute)
                         and isinstance(node.ctx, ast.Store)}
                self.assertEqual(own & given, set(), (name, kind.name))
                self.assertLessEqual({method for method in own if method.startswith("_")}, {"__init__"})
                taken = set(dir(list)) | set(dir(str)) | set(dir(dict)) | set(dir(int))
                self.assertEqual((own | given) & taken - {"__init__"}, set(), (name, kind.name))

    def test_attributes_read_are_given(self):
        given, read = set(), set()
        for text in sources().values():
            tree = list(ast.walk(ast.parse(text)))
            called = [node.func for node in tree if isinstance(node, ast.Call)]
            for node in tree:
                if isinstance(node, ast.Attribute) and isinstance(node.ctx, ast.Store):
                    given.add(node.attr)
                elif isinstance(node, ast.Attribute) and node not in called:
                    read.add(node.attr)
        self.assertLessEqual(read, given)

    def test_methods(self):
        own = {node.name for text in sources().values() for node in nodes(text, ast.FunctionDef)}
        for name, text in sources().items():
            called = [node.func for node in nodes(text, ast.Call) if isinstance(node.func, ast.Attribute)]
            self.assertLessEqual({node.attr for node in called}, METHODS | own, name)

    def test_words_and_values(self):
        for name, text in sources().items():
            self.assertIsNone(BARRED_WORDS.search(text), name)
            for node in nodes(text, ast.Constant):
                self.assertIsInstance(node.value, (int, str, bool, type(None)), (name, node.lineno))
            self.assertEqual(nodes(text, ast.Div, ast.GeneratorExp, ast.Global, ast.Assert), [], name)


if __name__ == "__main__":
    unittest.main()
