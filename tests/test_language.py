"""The rules of LANGUAGE.md that can be read off the sources without much ado."""

import ast
import pathlib
import re
import unittest

PACKAGE = pathlib.Path(__file__).resolve().parent.parent / "pagerooms"
BARRED = (
    "type typing typing_extensions enum Enum IntEnum StrEnum Flag IntFlag Generic Protocol ABC ABCMeta "
    "namedtuple NamedTuple TypedDict TYPE_CHECKING abstractmethod"
).split()


def sources():
    return [(path.name, path.read_text(encoding="utf-8")) for path in sorted(PACKAGE.glob("*.py"))]


def nodes(text, *kinds):
    return [node for node in ast.walk(ast.parse(text)) if isinstance(node, kinds)]


class TestLanguage(unittest.TestCase):
    def test_the_folder_has_only_sources(self):
        names = [path.name for path in PACKAGE.iterdir() if path.name != "__pycache__"]
        self.assertIn("__init__.py", names)
        for name in names:
            self.assertRegex(name, r"^[a-z0-9_]+\.py$")

    def test_characters_and_sizes(self):
        for name, text in sources():
            self.assertRegex(text, r"\A[ -~\n]*\Z", name)
            self.assertLessEqual(len(text.splitlines()), 400, name)
            self.assertLessEqual(max(len(line) for line in text.splitlines()), 120, name)
            for node in nodes(text, ast.FunctionDef):
                self.assertLessEqual(node.end_lineno - node.lineno + 1, 40, (name, node.name))

    def test_barred_words(self):
        for name, text in sources():
            words = re.findall(r"\w+", text)
            self.assertEqual([word for word in BARRED if word in words], [], name)
            self.assertNotRegex(text, "dataclass|overload|contextmanager", name)

    def test_imports_are_from_the_package(self):
        for name, text in sources():
            self.assertEqual(nodes(text, ast.Import), [], name)
            for node in nodes(text, ast.ImportFrom):
                self.assertEqual(node.level, 0, name)
                self.assertRegex(node.module, r"^pagerooms\.[a-z_]+$", name)

    def test_no_name_begins_with_an_underscore(self):
        for name, text in sources():
            said = [node.id for node in nodes(text, ast.Name)]
            said += [node.arg for node in nodes(text, ast.arg)]
            said += [node.name for node in nodes(text, ast.FunctionDef, ast.ClassDef)]
            said += [node.attr for node in nodes(text, ast.Attribute)]
            self.assertEqual([one for one in said if one.startswith("_") and one != "__init__"], [], name)

    def test_no_name_is_a_method_and_an_attribute(self):
        methods, attributes = set(), set()
        for _, text in sources():
            for node in nodes(text, ast.ClassDef):
                methods |= {row.name for row in node.body if isinstance(row, ast.FunctionDef)}
            attributes |= {node.attr for node in nodes(text, ast.Attribute) if isinstance(node.ctx, ast.Store)}
        self.assertEqual(methods & attributes, set())


if __name__ == "__main__":
    unittest.main()
