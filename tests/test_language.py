"""Those rules of ../shared/LANGUAGE.md that are soon looked up; the others stand on the reader's eye."""

import ast
import re
import unittest
from pathlib import Path

PACKAGE = Path(__file__).resolve().parent.parent / "glazetold"

BUILTINS = set("""
    len range enumerate zip min max sum abs sorted reversed int str bool bytes list tuple dict set frozenset isinstance
    ord repr any all divmod Exception ValueError TypeError KeyError IndexError LookupError ZeroDivisionError
    ArithmeticError OverflowError RuntimeError NotImplementedError AttributeError StopIteration NotImplemented super
    property staticmethod classmethod
""".split())

DUNDERS = set("__init__ __eq__ __repr__ __str__ __len__ __enter__ __exit__ __call__ __iter__".split())

BARRED_WORDS = re.compile(
    r"\b(type|typing|typing_extensions|enum|Enum|IntEnum|StrEnum|Flag|IntFlag|Generic|Protocol|ABC|ABCMeta"
    r"|namedtuple|NamedTuple|TypedDict|TYPE_CHECKING|abstractmethod)\b|dataclass|overload|contextmanager"
)


METHODS = set("""
    append clear copy count endswith extend find get index insert isalnum isalpha isdigit islower isspace isupper items
    join keys ljust lower lstrip partition pop remove replace reverse rfind rjust rpartition rsplit rstrip setdefault
    split splitlines startswith strip update upper values zfill bit_length add discard __init__
""".split())


def files():
    return sorted(path for path in PACKAGE.iterdir() if path.name != "__pycache__")


def trees():
    return [(path.name, ast.parse(path.read_text())) for path in files()]


class LanguageTest(unittest.TestCase):
    def test_files(self):
        self.assertIn("__init__.py", [path.name for path in files()])
        for path in files():
            self.assertRegex(path.name, r"\A([a-z][a-z0-9_]*|__init__|__main__)\.py\Z")

    def test_characters_and_sizes(self):
        for path in files():
            text = path.read_bytes().decode("ascii")
            self.assertEqual(re.findall(r"[^ -~\n]", text), [], path.name)
            self.assertLessEqual(len(text.splitlines()), 400, path.name)
            self.assertLessEqual(max(len(line) for line in text.splitlines()), 120, path.name)

    def test_barred_words(self):
        for path in files():
            self.assertIsNone(BARRED_WORDS.search(path.read_text()), path.name)

    def test_functions_are_small(self):
        for name, tree in trees():
            for node in ast.walk(tree):
                if isinstance(node, ast.FunctionDef):
                    self.assertLessEqual(node.end_lineno - node.lineno + 1, 40, (name, node.name))

    def test_imports(self):
        for name, tree in trees():
            for node in ast.walk(tree):
                self.assertNotIsInstance(node, ast.Import, name)
                if isinstance(node, ast.ImportFrom):
                    self.assertEqual(node.level, 0, name)
                    self.assertRegex(node.module, r"\Aglazetold\.[a-z]+\Z", name)

    def test_names(self):
        for name, tree in trees():
            bound = {"self"}
            for node in ast.walk(tree):
                if isinstance(node, (ast.FunctionDef, ast.ClassDef)):
                    bound.add(node.name)
                    self.assertTrue(not node.name.startswith("_") or node.name in DUNDERS, (name, node.name))
                elif isinstance(node, ast.arg):
                    bound.add(node.arg)
                elif isinstance(node, ast.alias):
                    bound.add(node.asname or node.name)
                elif isinstance(node, ast.Name) and not isinstance(node.ctx, ast.Load):
                    bound.add(node.id)
            self.assertEqual(sorted(bound & BUILTINS), [], name)
            used = {node.id for node in ast.walk(tree) if isinstance(node, ast.Name)}
            self.assertEqual(sorted(used - bound - BUILTINS), [], name)

    def test_values(self):
        for name, tree in trees():
            for node in ast.walk(tree):
                self.assertNotIsInstance(node, ast.Div, name)
                if isinstance(node, ast.Constant):
                    self.assertNotIsInstance(node.value, float, name)
                    if isinstance(node.value, str):
                        self.assertNotIn("%", node.value, name)

    def test_no_local_name_hides_an_import_or_a_class(self):
        for name, tree in trees():
            outer = {alias.name for node in ast.walk(tree) if isinstance(node, ast.ImportFrom) for alias in node.names}
            outer |= {node.name for node in ast.walk(tree) if isinstance(node, ast.ClassDef)}
            local = {node.arg for node in ast.walk(tree) if isinstance(node, ast.arg)}
            local |= {node.id for node in ast.walk(tree) if isinstance(node, ast.Name)
                      and not isinstance(node.ctx, ast.Load)}
            self.assertEqual(sorted(outer & local), [], name)

    def test_imports_name_the_defining_file_and_are_used(self):
        defined = {}
        for name, tree in trees():
            bound = {node.name for node in tree.body if isinstance(node, (ast.FunctionDef, ast.ClassDef))}
            bound |= {target.id for node in tree.body if isinstance(node, ast.Assign) for target in node.targets}
            defined["glazetold." + name[:-3]] = bound
        for name, tree in trees():
            used = {node.id for node in ast.walk(tree) if isinstance(node, ast.Name)}
            for node in ast.walk(tree):
                if isinstance(node, ast.ImportFrom):
                    for alias in node.names:
                        self.assertIn(alias.name, defined[node.module], name)
                        self.assertIn(alias.name, used, name)

    def test_no_file_imports_itself_through_others(self):
        needs = {}
        for name, tree in trees():
            needs["glazetold." + name[:-3]] = {node.module for node in ast.walk(tree)
                                               if isinstance(node, ast.ImportFrom)}
        for name in needs:
            reached = set(needs[name])
            for _ in needs:
                reached |= {more for one in reached for more in needs[one]}
            self.assertNotIn(name, reached)

    def test_no_generator_expressions_and_no_sort(self):
        # Classes have an equality of their own, so lists are handed to any, all, min, max, sum and sorted.
        for name, tree in trees():
            for node in ast.walk(tree):
                self.assertNotIsInstance(node, ast.GeneratorExp, name)
                if isinstance(node, ast.Attribute):
                    self.assertNotEqual(node.attr, "sort", name)

    def test_no_name_is_a_method_and_an_attribute(self):
        methods, attributes = set(), set()
        for name, tree in trees():
            for node in ast.walk(tree):
                if isinstance(node, ast.ClassDef):
                    methods |= {own.name for own in node.body if isinstance(own, ast.FunctionDef)}
                elif isinstance(node, ast.Attribute) and isinstance(node.ctx, ast.Store):
                    attributes.add(node.attr)
        self.assertEqual(sorted(methods & attributes), [])

    def test_attributes_are_own_ones_or_known_methods(self):
        own, read = set(), set()
        for name, tree in trees():
            for node in ast.walk(tree):
                if isinstance(node, ast.ClassDef):
                    own |= {method.name for method in node.body if isinstance(method, ast.FunctionDef)}
                elif isinstance(node, ast.Attribute) and isinstance(node.ctx, ast.Store):
                    own.add(node.attr)
                elif isinstance(node, ast.Attribute):
                    read.add(node.attr)
        self.assertEqual(sorted(read - own - METHODS), [])

    def test_errors_are_raised_on_the_spot_and_caught_by_their_names(self):
        for name, tree in trees():
            own = {alias.name for node in tree.body if isinstance(node, ast.ImportFrom) for alias in node.names}
            for node in ast.walk(tree):
                if isinstance(node, ast.Raise):
                    self.assertIn(node.exc.func.id, own, name)
                elif isinstance(node, ast.ExceptHandler):
                    self.assertIn(node.type.id, own, name)

    def test_names_are_bound_once_at_module_level(self):
        for name, tree in trees():
            bound = [alias.name for node in tree.body if isinstance(node, ast.ImportFrom) for alias in node.names]
            bound += [node.name for node in tree.body if isinstance(node, (ast.FunctionDef, ast.ClassDef))]
            bound += [target.id for node in tree.body if isinstance(node, ast.Assign) for target in node.targets]
            self.assertEqual(len(bound), len(set(bound)), name)
