"""The rules of ../shared/LANGUAGE.md that can be looked up in the files one by one, not all of them."""

import ast
import builtins
import pathlib
import re
import unittest

PACKAGE = pathlib.Path(__file__).resolve().parent.parent / "seeall"

BUILTINS = """
len range enumerate zip min max sum abs sorted reversed int str bool bytes list tuple dict set frozenset
isinstance ord repr any all divmod Exception ValueError TypeError KeyError IndexError LookupError
ZeroDivisionError ArithmeticError OverflowError RuntimeError NotImplementedError AttributeError
StopIteration NotImplemented super property staticmethod classmethod object float
""".split()

BARRED_WORDS = """
type typing typing_extensions enum Enum IntEnum StrEnum Flag IntFlag Generic Protocol ABC ABCMeta
namedtuple NamedTuple TypedDict TYPE_CHECKING abstractmethod
""".split()

BUILTIN_METHODS = """
append clear copy count endswith extend find get index insert isalnum isalpha isdigit islower isspace isupper items
join keys ljust lower lstrip partition pop remove replace reverse rfind rjust rpartition rsplit rstrip setdefault
split splitlines startswith strip update upper values zfill bit_length add discard sort __init__
""".split()

BARRED_NAMES = """
register mro elements open input version_info with_traceback add_note attrgetter breakpoint builtins compile copyright
credits delattr dir eval exec exit gc getattr globals hasattr help id importlib license locals methodcaller os quit
setattr super type vars sys format format_map args
""".split()

BARRED_NODES = (
    ast.Global, ast.AsyncFunctionDef, ast.AsyncFor, ast.AsyncWith, ast.Await, ast.Import, ast.Div,
)


def files():
    return sorted(path for path in PACKAGE.rglob("*") if "__pycache__" not in path.parts)


def texts():
    return [(path.name, path.read_text(encoding="utf-8")) for path in files()]


def nodes():
    return [(name, node) for name, text in texts() for node in ast.walk(ast.parse(text))]


def bound_names(node):
    if isinstance(node, (ast.FunctionDef, ast.ClassDef)):
        return [node.name]
    if isinstance(node, ast.arg):
        return [node.arg]
    if isinstance(node, ast.Name) and not isinstance(node.ctx, ast.Load):
        return [node.id]
    return []


class LanguageTest(unittest.TestCase):
    def test_files_have_plain_names(self):
        self.assertIn("__init__.py", [path.name for path in files()])
        for path in files():
            self.assertRegex(path.name, r"^([a-z][a-z0-9_]*|__init__|__main__)\.py$")
            if path.stem != "__init__":
                self.assertFalse(hasattr(builtins, path.stem), path.name)

    def test_characters_and_sizes(self):
        for name, text in texts():
            self.assertRegex(text, r"\A[ -~\n]*\Z", name)
            self.assertLessEqual(len(text.splitlines()), 400, name)
            self.assertLessEqual(max(len(line) for line in text.splitlines()), 120, name)
        for name, node in nodes():
            if isinstance(node, ast.FunctionDef):
                self.assertLessEqual(node.end_lineno - node.lineno + 1, 40, (name, node.name))

    def test_barred_words(self):
        for name, text in texts():
            words = re.findall(r"\w+", text)
            self.assertEqual([word for word in words if word in BARRED_WORDS], [], name)
            self.assertIsNone(re.search("dataclass|overload|contextmanager", text), name)

    def test_imports_name_files_of_the_package(self):
        stems = [path.stem for path in files()]
        for name, node in nodes():
            if isinstance(node, ast.ImportFrom) and node.module != "__future__":
                self.assertEqual(node.level, 0, name)
                self.assertIn(node.module, [f"seeall.{stem}" for stem in stems], name)
                self.assertNotIn("*", [alias.name for alias in node.names], name)

    def test_barred_statements_and_signs(self):
        for name, node in nodes():
            self.assertNotIsInstance(node, BARRED_NODES, name)
            if isinstance(node, ast.Constant):
                self.assertNotIsInstance(node.value, (float, complex), name)
                self.assertFalse(isinstance(node.value, str) and "%" in node.value, name)

    def test_is_stands_with_none_and_truths(self):
        for name, node in nodes():
            if isinstance(node, ast.Compare):
                for sign, other in zip(node.ops, node.comparators):
                    if isinstance(sign, (ast.Is, ast.IsNot)):
                        self.assertIn(ast.unparse(other), ("None", "True", "False"), name)

    def test_only_listed_builtins_and_none_bound_anew(self):
        for name, node in nodes():
            if isinstance(node, ast.Name) and hasattr(builtins, node.id):
                self.assertIn(node.id, BUILTINS, name)
            for bound in bound_names(node):
                dunder_method = isinstance(node, ast.FunctionDef) and re.fullmatch("__[a-z]+__", bound)
                self.assertTrue(dunder_method or not bound.startswith("_"), (name, bound))
                if not isinstance(node, ast.FunctionDef):
                    self.assertFalse(hasattr(builtins, bound), (name, bound))

    def test_no_name_of_an_import_or_class_is_bound_again(self):
        for name, text in texts():
            tree = ast.parse(text)
            taken = [node.name for node in tree.body if isinstance(node, ast.ClassDef)]
            for node in tree.body:
                if isinstance(node, ast.ImportFrom):
                    taken += [alias.asname or alias.name for alias in node.names]
            self.assertEqual(len(taken), len(set(taken)), name)
            for node in ast.walk(tree):
                if not isinstance(node, ast.ClassDef):
                    self.assertEqual([word for word in bound_names(node) if word in taken + BARRED_NAMES], [], name)
            functions = [node.name for node in tree.body if isinstance(node, ast.FunctionDef)]
            self.assertEqual(len(functions), len(set(functions)), name)

    def test_no_two_files_import_from_each_other(self):
        imports = {f"seeall.{path.stem}": [] for path in files()}
        for name, node in nodes():
            if isinstance(node, ast.ImportFrom):
                imports[f"seeall.{name[:-3]}"].append(node.module)
        while imports:
            free = [name for name in imports if not any(other in imports for other in imports[name])]
            self.assertNotEqual(free, [], imports)
            imports = {name: imports[name] for name in imports if name not in free}

    def test_imports_name_the_file_that_defines(self):
        defined = {}
        for name, text in texts():
            parts = [part for node in ast.parse(text).body for part in [node, *getattr(node, "targets", [])]]
            defined[f"seeall.{name[:-3]}"] = [word for part in parts for word in bound_names(part)]
        for name, node in nodes():
            if isinstance(node, ast.ImportFrom) and node.module != "__future__":
                for alias in node.names:
                    self.assertIn(alias.name, defined[node.module], name)

    def test_only_listed_methods_of_builtin_values(self):
        own = [node.name for name, node in nodes() if isinstance(node, ast.FunctionDef)]
        for name, node in nodes():
            if isinstance(node, ast.Call) and isinstance(node.func, ast.Attribute):
                self.assertIn(node.func.attr, BUILTIN_METHODS + own, name)

    def test_generator_expressions_stand_in_calls(self):
        calls = ["list", "tuple", "dict", "sorted", "sum", "min", "max", "any", "all", "join"]
        standing = [part for name, node in nodes() if isinstance(node, ast.Call)
                    and getattr(node.func, "id", getattr(node.func, "attr", None)) in calls
                    for part in node.args if isinstance(part, ast.GeneratorExp)]
        everywhere = [node for name, node in nodes() if isinstance(node, ast.GeneratorExp)]
        self.assertEqual(len(standing), len(everywhere))


if __name__ == "__main__":
    unittest.main()
