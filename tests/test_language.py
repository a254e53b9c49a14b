"""The package keeps to the rules of the language that can be seen in its files one by one."""

import ast
import builtins
import pathlib
import re
import unittest

PACKAGE = pathlib.Path(__file__).resolve().parent.parent / "lazytags"
FILES = sorted(PACKAGE.rglob("*.py"))

BUILTINS = """len range enumerate zip min max sum abs sorted reversed int str bool list tuple dict set isinstance ord repr
any all divmod property ValueError TypeError KeyError IndexError LookupError ZeroDivisionError
AttributeError""".split()
METHODS = """append clear copy count endswith extend find get index insert isalnum isalpha isdigit islower isspace isupper
items join keys ljust lower lstrip partition pop remove replace reverse rfind rjust rpartition rsplit rstrip setdefault
split splitlines startswith strip update upper values zfill bit_length add discard""".split()
NAMES_NOT_USED = """register mro elements open input law version_info with_traceback add_note attrgetter breakpoint builtins
compile copyright credits delattr dir eval exec exit gc globals help id importlib license locals methodcaller os quit
type vars sys""".split()
WORDS_NOT_USED = """type typing typing_extensions enum Enum IntEnum StrEnum Flag IntFlag Generic Protocol ABC ABCMeta
namedtuple NamedTuple TypedDict TYPE_CHECKING abstractmethod""".split()
NODES_NOT_USED = (
    ast.Global, ast.AsyncFunctionDef, ast.AsyncFor, ast.AsyncWith, ast.Await, ast.GeneratorExp, ast.Yield, ast.YieldFrom,
    ast.Import, ast.Div, ast.Try, ast.With, ast.Match, ast.Pow,
)
DOUBLE = ["__init__", "__eq__", "__repr__", "__str__", "__len__"]


def tree_of(path):
    return ast.parse(path.read_text())


def nodes_of(path, *kinds):
    return [node for node in ast.walk(tree_of(path)) if isinstance(node, kinds)]


def docstrings(tree):
    places = [tree, *[node for node in ast.walk(tree) if isinstance(node, (ast.FunctionDef, ast.ClassDef))]]
    return [place.body[0].value for place in places if ast.get_docstring(place) is not None]


def bound_names(tree):
    """The names of all functions, classes, parameters and variables of a file."""
    found = []
    for node in ast.walk(tree):
        if isinstance(node, (ast.FunctionDef, ast.ClassDef)):
            found.append(node.name)
        elif isinstance(node, ast.arg):
            found.append(node.arg)
        elif isinstance(node, ast.Name) and isinstance(node.ctx, ast.Store):
            found.append(node.id)
    return found


class TestFiles(unittest.TestCase):
    def test_there_are_files_and_nothing_else(self):
        self.assertTrue(len(FILES) >= 6)
        others = [path for path in PACKAGE.rglob("*") if path.suffix != ".py" and "__pycache__" not in path.parts]
        self.assertEqual([path for path in others if not path.is_dir()], [])

    def test_characters_and_sizes(self):
        for path in FILES:
            text = path.read_text(encoding="utf-8")
            self.assertTrue(all(letter == "\n" or " " <= letter <= "~" for letter in text), path)
            lines = text.split("\n")
            self.assertLessEqual(len(lines), 399, path)
            self.assertLessEqual(max(len(line) for line in lines), 120, path)
            for node in nodes_of(path, ast.FunctionDef):
                self.assertLessEqual(node.end_lineno - node.lineno + 1, 40, (path, node.name))

    def test_module_level(self):
        for path in FILES:
            for number, node in enumerate(tree_of(path).body):
                kinds = (ast.ImportFrom, ast.FunctionDef, ast.ClassDef, ast.Assign)
                self.assertTrue(number == 0 or isinstance(node, kinds), (path, number))
                if isinstance(node, ast.Assign):
                    self.assertEqual([len(node.targets), type(node.targets[0])], [1, ast.Name])
                    ast.literal_eval(node.value)

    def test_imports(self):
        befores = {}
        for path in FILES:
            names = [node.module for node in nodes_of(path, ast.ImportFrom)]
            for node in nodes_of(path, ast.ImportFrom):
                self.assertEqual(node.level, 0)
                self.assertTrue(node.module.startswith("lazytags."), path)
                defined = [each.name for each in tree_of(PACKAGE / (node.module[9:] + ".py")).body if hasattr(each, "name")]
                constants = [
                    each.targets[0].id
                    for each in tree_of(PACKAGE / (node.module[9:] + ".py")).body
                    if isinstance(each, ast.Assign)
                ]
                for alias in node.names:
                    self.assertIsNone(alias.asname)
                    self.assertIn(alias.name, defined + constants, path)
            befores["lazytags." + path.stem] = names
        self.assertEqual(files_in_a_circle(befores), [])

    def test_one_binding_and_no_hidden_imports(self):
        for path in FILES:
            tree = tree_of(path)
            imported = [alias.name for node in nodes_of(path, ast.ImportFrom) for alias in node.names]
            tops = [node.name for node in tree.body if isinstance(node, (ast.FunctionDef, ast.ClassDef))]
            tops += [node.targets[0].id for node in tree.body if isinstance(node, ast.Assign)]
            self.assertEqual(len(imported + tops), len(set(imported + tops)), path)
            inner = bound_names(tree)
            classes = [node.name for node in tree.body if isinstance(node, ast.ClassDef)]
            for name in imported:
                self.assertNotIn(name, inner, path)
            for name in classes:
                self.assertEqual(inner.count(name), 1, (path, name))


def files_in_a_circle(befores):
    """The files that import each other, straight or through others."""
    left = dict(befores)
    while True:
        free = [name for name in left if not any(other in left for other in left[name])]
        if not free:
            return sorted(left)
        left = {name: left[name] for name in left if name not in free}


class TestWords(unittest.TestCase):
    def test_statements_and_signs(self):
        for path in FILES:
            for node in nodes_of(path, *NODES_NOT_USED):
                self.fail(f"{path}: {type(node).__name__} in line {node.lineno}")
            for node in nodes_of(path, ast.Constant):
                self.assertNotIsInstance(node.value, (float, complex, bytes), path)
            for node in nodes_of(path, ast.Compare):
                for sign, right in zip(node.ops, node.comparators):
                    if isinstance(sign, (ast.Is, ast.IsNot)):
                        self.assertIn(ast.unparse(right), ["None", "True", "False"], (path, node.lineno))

    def test_names(self):
        for path in FILES:
            for name in bound_names(tree_of(path)):
                self.assertNotIn(name, NAMES_NOT_USED, path)
                self.assertTrue(name in DOUBLE or name not in dir(builtins), (path, name))
                self.assertTrue(name in DOUBLE or not name.startswith("__"), (path, name))
                self.assertNotRegex(name, r"^_(wall|record|cold|outside)[_0-9]*$", path)
            for node in nodes_of(path, ast.Attribute):
                self.assertNotIn(node.attr, NAMES_NOT_USED, path)

    def test_words(self):
        for path in FILES:
            text = path.read_text()
            tree = tree_of(path)
            docs = docstrings(tree)
            for node in ast.walk(tree):
                if isinstance(node, ast.Constant) and isinstance(node.value, str):
                    self.assertNotIn("%", node.value, path)
                    if not any(node is doc for doc in docs):
                        self.assertNotIn(node.value, WORDS_NOT_USED, path)
            code = re.sub(r'"""[^"]*"""', "", re.sub(r"#.*", "", text))
            for word in WORDS_NOT_USED:
                self.assertNotRegex(code, rf"\b{word}\b", path)
            self.assertNotRegex(code, r"dataclass|overload|contextmanager")

    def test_calls_of_builtins_and_methods(self):
        own = [node.name for path in FILES for node in nodes_of(path, ast.FunctionDef, ast.ClassDef)]
        for path in FILES:
            known = own + bound_names(tree_of(path)) + BUILTINS
            for node in nodes_of(path, ast.Call):
                if isinstance(node.func, ast.Name):
                    self.assertIn(node.func.id, known, (path, node.lineno))
                else:
                    self.assertIsInstance(node.func, ast.Attribute, path)
                    self.assertIn(node.func.attr, METHODS + own, (path, node.lineno))
            for node in nodes_of(path, ast.Name):
                self.assertIn(node.id, known + [a.name for i in nodes_of(path, ast.ImportFrom) for a in i.names], path)

    def test_decorators_and_double_underscores(self):
        for path in FILES:
            for node in nodes_of(path, ast.FunctionDef, ast.ClassDef):
                for decorator in node.decorator_list:
                    self.assertIn(ast.unparse(decorator), ["property", f"{node.name}.setter"], path)
            for node in nodes_of(path, ast.Attribute):
                self.assertFalse(node.attr.startswith("__"), (path, node.lineno))

    def test_a_property_that_is_assigned_has_its_setter_in_each_class(self):
        # The rule goes by the name, whichever object stands before it.
        assigned = [
            node.attr for path in FILES for node in nodes_of(path, ast.Attribute) if not isinstance(node.ctx, ast.Load)
        ]
        self.assertIn("size", assigned)
        self.assertIn("turning", assigned)
        for path in FILES:
            for each in nodes_of(path, ast.ClassDef):
                methods = [node for node in each.body if isinstance(node, ast.FunctionDef)]
                written = [(node.name, ast.unparse(sign)) for node in methods for sign in node.decorator_list]
                for name in [name for name, sign in written if sign == "property" and name in assigned]:
                    self.assertIn((name, f"{name}.setter"), written, (path, each.name))

    def test_no_name_is_a_method_and_an_attribute(self):
        stored = [
            node.attr for path in FILES for node in nodes_of(path, ast.Attribute) if not isinstance(node.ctx, ast.Load)
        ]
        methods = [
            node.name for path in FILES for each in nodes_of(path, ast.ClassDef) for node in each.body
            if isinstance(node, ast.FunctionDef) and not node.decorator_list
        ]
        self.assertIn("copy", methods)
        self.assertEqual([name for name in methods if name in stored], [])

    def test_no_sort_beside_an_order(self):
        for path in FILES:
            self.assertNotIn(".sort(", path.read_text(), path)

    def test_two_lambdas_do_not_stand_on_one_line(self):
        for path in FILES:
            lines = [node.lineno for node in nodes_of(path, ast.Lambda)]
            self.assertEqual(len(lines), len(set(lines)), path)


if __name__ == "__main__":
    unittest.main()
