"""The package's files keep to the small Python that the program is written in.

Not every rule can be looked at here; these are the ones that are broken most easily.
"""

import ast
import builtins
import pathlib
import re
import unittest

PACKAGE = pathlib.Path(__file__).resolve().parent.parent / "leapranks"
FILES = sorted(path for path in PACKAGE.iterdir() if path.name != "__pycache__")

BUILTINS = set("""len range enumerate zip min max sum abs sorted reversed int str bool bytes list tuple dict
set frozenset isinstance ord repr any all divmod Exception ValueError TypeError KeyError IndexError LookupError
ZeroDivisionError ArithmeticError OverflowError RuntimeError NotImplementedError AttributeError StopIteration
NotImplemented iter next super property staticmethod classmethod""".split())
METHODS = set("""append clear copy count endswith extend find get index insert isalnum isalpha isdigit islower
isspace isupper items join keys ljust lower lstrip partition pop remove replace reverse rfind rjust rpartition
rsplit rstrip setdefault split splitlines startswith strip update upper values zfill bit_length sort add discard
isascii isdecimal removeprefix removesuffix rindex __init__""".split())
BARRED_WORDS = re.compile(r"\b(type|typing|typing_extensions|enum|Enum|IntEnum|StrEnum|Flag|IntFlag|Generic|"
                          r"Protocol|ABC|ABCMeta|namedtuple|NamedTuple|TypedDict|TYPE_CHECKING|"
                          r"abstractmethod)\b|dataclass|overload|contextmanager")
BARRED_NAMES = set("""register mro elements open input law version_info with_traceback add_note attrgetter
breakpoint builtins compile copyright credits delattr dir eval exec exit gc getattr globals hasattr help id
importlib license locals methodcaller os quit setattr type vars sys""".split())
BARRED_NODES = (ast.Global, ast.AsyncFunctionDef, ast.AsyncFor, ast.AsyncWith, ast.Await, ast.Div, ast.MatMult,
                ast.Import)
PLAIN_NODES = (ast.Constant, ast.Tuple, ast.List, ast.Dict, ast.Name, ast.BinOp, ast.UnaryOp, ast.USub, ast.Pow, ast.Load)
TAKE_AT_ONCE = ("list", "tuple", "dict", "sorted", "sum", "any", "all", "enumerate", "zip", "min", "max", "len")
TAKE_GENERATORS = ("list", "tuple", "dict", "sorted", "sum", "min", "max", "any", "all", "join")


def trees():
    return [(path, ast.parse(path.read_text(encoding="ascii"))) for path in FILES]


def bound_names(tree):
    """All names that a file gives to something: at module level and within."""
    for node in ast.walk(tree):
        if isinstance(node, (ast.FunctionDef, ast.ClassDef)):
            yield node.name
        elif isinstance(node, ast.arg):
            yield node.arg
        elif isinstance(node, ast.Name) and isinstance(node.ctx, ast.Store):
            yield node.id
        elif isinstance(node, ast.alias):
            yield node.asname or node.name


def methods_and_fields():
    """The names of all methods that the package's classes have, and of all attributes that it sets."""
    methods, fields = set(), set()
    for path, tree in trees():
        for node in ast.walk(tree):
            if isinstance(node, ast.ClassDef):
                methods |= {part.name for part in node.body if isinstance(part, ast.FunctionDef)}
            if isinstance(node, ast.Attribute) and isinstance(node.ctx, ast.Store):
                fields.add(node.attr)
    return methods, fields


def called_name(node):
    """The name that is called, where a node is a call of a plain name."""
    return node.func.id if isinstance(node, ast.Call) and isinstance(node.func, ast.Name) else None


class LanguageTest(unittest.TestCase):
    def test_files(self):
        self.assertTrue(FILES)
        for path in FILES:
            self.assertRegex(path.name, r"^[a-z_][a-z0-9_]*\.py$")
            self.assertNotIn(path.stem, vars(builtins))

    def test_characters_lines_and_words(self):
        for path in FILES:
            text = path.read_bytes().decode("ascii")
            self.assertRegex(text, r"\A[ -~\n]*\Z", path)
            self.assertLessEqual(len(text.splitlines()), 399, path)
            self.assertLessEqual(max(len(line) for line in text.splitlines()), 120, path)
            self.assertIsNone(BARRED_WORDS.search(text), path)

    def test_functions_are_short(self):
        for path, tree in trees():
            for node in ast.walk(tree):
                if isinstance(node, ast.FunctionDef):
                    self.assertLessEqual(node.end_lineno - node.lineno + 1, 40, (path, node.name))

    def test_module_level(self):
        for path, tree in trees():
            for node in tree.body[1:]:
                self.assertIsInstance(node, (ast.ImportFrom, ast.FunctionDef, ast.ClassDef, ast.Assign), path)
            self.assertIsNotNone(ast.get_docstring(tree), path)

    def test_imports_name_the_file_that_defines_the_name(self):
        for path, tree in trees():
            for node in ast.walk(tree):
                if isinstance(node, ast.ImportFrom):
                    self.assertEqual(node.level, 0, path)
                    self.assertRegex(node.module, r"^leapranks\.[a-z]+$")
                    source = ast.parse((PACKAGE / (node.module.split(".")[1] + ".py")).read_text())
                    made = {part.name for part in source.body if isinstance(part, (ast.FunctionDef, ast.ClassDef))}
                    made |= {part.targets[0].id for part in source.body if isinstance(part, ast.Assign)}
                    for alias in node.names:
                        self.assertIn(alias.name, made, path)

    def test_no_imports_in_a_ring(self):
        needs = {path.stem: {node.module.split(".")[1] for node in ast.walk(tree)
                             if isinstance(node, ast.ImportFrom)} for path, tree in trees()}
        while needs:
            ready = [name for name in needs if not needs[name] & set(needs)]
            self.assertTrue(ready, needs)
            for name in ready:
                del needs[name]

    def test_names(self):
        for path, tree in trees():
            for name in bound_names(tree):
                if name != "__init__":
                    self.assertNotRegex(name, r"^_", path)
                    self.assertNotIn(name, BARRED_NAMES, path)
                    self.assertNotIn(name, vars(builtins), path)

    def test_no_inner_name_hides_one_of_the_module(self):
        for path, tree in trees():
            outer = [name for node in tree.body for name in
                     ([node.name] if isinstance(node, (ast.FunctionDef, ast.ClassDef)) else
                      [alias.name for alias in node.names] if isinstance(node, ast.ImportFrom) else
                      [target.id for target in node.targets] if isinstance(node, ast.Assign) else [])]
            self.assertEqual(len(outer), len(set(outer)), path)
            methods = [part for node in tree.body if isinstance(node, ast.ClassDef) for part in node.body]
            for node in tree.body + methods:
                if isinstance(node, ast.FunctionDef):
                    inner = set(bound_names(node)) - {node.name}
                    self.assertFalse(inner & set(outer), (path, node.name))

    def test_no_name_is_a_method_and_an_attribute(self):
        methods, fields = methods_and_fields()
        self.assertFalse(methods & fields)
        for name in methods - {"__init__"}:
            for kind in (str, int, list, tuple, dict, set, bytes):
                self.assertFalse(hasattr(kind, name), name)

    def test_builtins_and_methods(self):
        methods, fields = methods_and_fields()
        for path, tree in trees():
            made = set(bound_names(tree))
            for node in ast.walk(tree):
                if isinstance(node, ast.Name) and node.id not in made:
                    self.assertIn(node.id, BUILTINS, path)
                if isinstance(node, ast.Attribute):
                    self.assertIn(node.attr, METHODS | methods | fields, path)

    def test_module_level_values_are_plain(self):
        for path, tree in trees():
            functions = set()
            for node in tree.body:
                if isinstance(node, ast.FunctionDef):
                    functions.add(node.name)
                if isinstance(node, ast.Assign):
                    self.assertEqual([type(target) for target in node.targets], [ast.Name], path)
                    for part in ast.walk(node.value):
                        self.assertIsInstance(part, PLAIN_NODES, path)
                        if isinstance(part, ast.Name):
                            self.assertIn(part.id, functions, path)
                        if part is not node.value:
                            self.assertNotIsInstance(part, (ast.List, ast.Dict), path)

    def test_where_sets_iterators_and_generators_stand(self):
        for path, tree in trees():
            for outer in ast.walk(tree):
                for node in ast.iter_child_nodes(outer):
                    called = outer.func if isinstance(outer, ast.Call) and outer.func is not node else None
                    name = called.id if isinstance(called, ast.Name) else called.attr if called else None
                    if isinstance(node, (ast.Set, ast.SetComp)) or called_name(node) == "set":
                        self.assertTrue(name in ("sorted", "len") or isinstance(outer, ast.Compare), (path, node.lineno))
                    if isinstance(node, ast.GeneratorExp):
                        self.assertIn(name, TAKE_GENERATORS, (path, node.lineno))
                    if called_name(node) in ("zip", "enumerate", "range", "reversed"):
                        loops = isinstance(outer, (ast.For, ast.comprehension)) and outer.iter is node
                        self.assertTrue(loops or name in TAKE_AT_ONCE, (path, node.lineno))

    def test_raised_errors_are_made_on_the_spot(self):
        for path, tree in trees():
            for node in ast.walk(tree):
                if isinstance(node, ast.Raise):
                    self.assertRegex(called_name(node.exc), r"^(No|Too)[A-Z][a-z]+$", path)
                if isinstance(node, ast.Call) and isinstance(node.func, ast.Name):
                    words = [keyword.arg for keyword in node.keywords]
                    self.assertIn(words, ([], ["key"]), (path, node.lineno))
                if isinstance(node, ast.FunctionDef):
                    given = node.args.defaults + node.args.kw_defaults
                    self.assertTrue(all(isinstance(part, ast.Constant) for part in given), (path, node.name))
                    self.assertFalse(node.decorator_list or node.args.posonlyargs, (path, node.name))

    def test_statements_and_values(self):
        for path, tree in trees():
            for node in ast.walk(tree):
                self.assertNotIsInstance(node, BARRED_NODES, path)
                if isinstance(node, ast.Constant):
                    self.assertNotIsInstance(node.value, (float, complex), path)
                    if isinstance(node.value, str):
                        self.assertNotIn("%", node.value, path)
                if isinstance(node, ast.Compare):
                    for sign, right in zip(node.ops, node.comparators):
                        if isinstance(sign, (ast.Is, ast.IsNot)):
                            self.assertIsInstance(right, ast.Constant, path)
                if isinstance(node, ast.BinOp) and isinstance(node.op, ast.Pow):
                    self.assertIsInstance(node.right, ast.Constant, path)


if __name__ == "__main__":
    unittest.main()
