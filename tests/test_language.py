"""The rules of LANGUAGE.md that can be read off the sources without much ado."""

import ast
import builtins
import pathlib
import re
import unittest

PACKAGE = pathlib.Path(__file__).resolve().parent.parent / "pagerooms"
BARRED = (
    "type typing typing_extensions enum Enum IntEnum StrEnum Flag IntFlag Generic Protocol ABC ABCMeta "
    "namedtuple NamedTuple TypedDict TYPE_CHECKING abstractmethod"
).split()
# L8, without what only __main__.py may use and without chr (L27).
BUILTINS = (
    "len range enumerate zip min max sum abs sorted reversed int str bool bytes list tuple dict set frozenset "
    "isinstance ord repr any all divmod Exception ValueError TypeError KeyError IndexError LookupError "
    "ZeroDivisionError ArithmeticError OverflowError RuntimeError NotImplementedError AttributeError "
    "StopIteration NotImplemented"
).split()
# Of L25 those that may come to be of use here, and add, discard and sort.
METHODS = (
    "append clear copy count endswith extend find get index insert items join keys pop remove replace reverse "
    "setdefault split startswith strip update values add discard sort __init__"
).split()


def sources():
    return [(path.name, path.read_text(encoding="utf-8")) for path in sorted(PACKAGE.glob("*.py"))]


def nodes(text, *kinds):
    return [node for node in ast.walk(ast.parse(text)) if isinstance(node, kinds)]


class TestLanguage(unittest.TestCase):
    def test_the_folder_has_only_sources(self):
        names = [path.name for path in PACKAGE.iterdir() if path.name != "__pycache__"]
        self.assertIn("__init__.py", names)
        for name in names:
            self.assertRegex(name, r"^[a-z0-9_]+\.py$")

    def test_characters_and_sizes(self):
        for name, text in sources():
            self.assertRegex(text, r"\A[ -~\n]*\Z", name)
            self.assertLessEqual(len(text.splitlines()), 400, name)
            self.assertLessEqual(max(len(line) for line in text.splitlines()), 120, name)
            for node in nodes(text, ast.FunctionDef):
                self.assertLessEqual(node.end_lineno - node.lineno + 1, 40, (name, node.name))

    def test_barred_words(self):
        for name, text in sources():
            words = re.findall(r"\w+", text)
            self.assertEqual([word for word in BARRED if word in words], [], name)
            self.assertNotRegex(text, "dataclass|overload|contextmanager", name)

    def test_imports_are_from_the_package(self):
        for name, text in sources():
            self.assertEqual(nodes(text, ast.Import), [], name)
            for node in nodes(text, ast.ImportFrom):
                self.assertEqual(node.level, 0, name)
                self.assertRegex(node.module, r"^pagerooms\.[a-z_]+$", name)

    def test_no_name_begins_with_an_underscore(self):
        for name, text in sources():
            said = [node.id for node in nodes(text, ast.Name)]
            said += [node.arg for node in nodes(text, ast.arg)]
            said += [node.name for node in nodes(text, ast.FunctionDef, ast.ClassDef)]
            said += [node.attr for node in nodes(text, ast.Attribute)]
            self.assertEqual([one for one in said if one.startswith("_") and one != "__init__"], [], name)

    def test_no_name_is_a_method_and_an_attribute(self):
        methods, attributes = set(), set()
        for _, text in sources():
            for node in nodes(text, ast.ClassDef):
                methods |= {row.name for row in node.body if isinstance(row, ast.FunctionDef)}
            attributes |= {node.attr for node in nodes(text, ast.Attribute) if isinstance(node.ctx, ast.Store)}
        self.assertEqual(methods & attributes, set())

    def test_no_variable_has_the_name_of_an_import_a_class_or_a_builtin(self):
        for name, text in sources():
            barred = {one.name for node in nodes(text, ast.ImportFrom) for one in node.names}
            barred |= {node.name for node in nodes(text, ast.ClassDef)} | set(dir(builtins))
            bound = {node.arg for node in nodes(text, ast.arg)}
            bound |= {node.id for node in nodes(text, ast.Name) if isinstance(node.ctx, ast.Store)}
            self.assertEqual(bound & barred, set(), name)

    def test_each_attribute_that_is_read_is_assigned_by_a_class(self):
        assigned, read = set(), set()
        for _, text in sources():
            calls = [node.func for node in nodes(text, ast.Call)]
            called = {(one.lineno, one.end_col_offset) for one in calls}
            for node in nodes(text, ast.Attribute):
                if isinstance(node.ctx, ast.Store):
                    assigned.add(node.attr)
                elif (node.lineno, node.end_col_offset) not in called:
                    read.add(node.attr)
        self.assertEqual(read - assigned, set())

    def test_is_stands_with_none_and_truths_only(self):
        for name, text in sources():
            for node in nodes(text, ast.Compare):
                for sign, right in zip(node.ops, node.comparators):
                    if isinstance(sign, (ast.Is, ast.IsNot)):
                        self.assertIn(ast.unparse(right), ("None", "True", "False"), name)

    def test_no_two_files_import_from_each_other(self):
        files = {name[:-3]: nodes(text, ast.ImportFrom) for name, text in sources()}
        above = {name: {node.module.split(".")[1] for node in told} for name, told in files.items()}
        while above:
            ready = [name for name in above if not above[name] & set(above)]
            self.assertNotEqual(ready, [], above)
            above = {name: told for name, told in above.items() if name not in ready}

    def test_builtins(self):
        for name, text in sources():
            said = {node.id for node in nodes(text, ast.Name)} & set(dir(builtins))
            self.assertEqual(said - set(BUILTINS), set(), name)

    def test_methods(self):
        own = {node.name for _, text in sources() for node in nodes(text, ast.FunctionDef)}
        for name, text in sources():
            called = [node.func.attr for node in nodes(text, ast.Call) if isinstance(node.func, ast.Attribute)]
            self.assertEqual(set(called) - own - set(METHODS), set(), name)

    def test_no_float_and_no_slash(self):
        for name, text in sources():
            self.assertEqual(nodes(text, ast.Div, ast.Global, ast.AsyncFunctionDef), [], name)
            self.assertEqual([one for one in nodes(text, ast.Constant) if isinstance(one.value, float)], [], name)

    def test_what_is_iterated_at_once_is_not_stored(self):
        for name, text in sources():
            for node in nodes(text, ast.Assign, ast.Return):
                if isinstance(node.value, ast.Call):
                    told = ast.unparse(node.value.func)
                    self.assertNotRegex(told, r"^(range|zip|enumerate|reversed)$|\.(items|keys|values)$", name)


if __name__ == "__main__":
    unittest.main()
