"""The form of the code: what can be seen of ../shared/LANGUAGE.md without running it."""

import ast
import builtins
import pathlib
import re
import unittest

PACKAGE = pathlib.Path(__file__).resolve().parent.parent / "wishkeep"
FILES = sorted(path for path in PACKAGE.rglob("*") if "__pycache__" not in path.parts)
SOURCES = {path: path.read_text() for path in FILES}
TREES = {path: ast.parse(text) for path, text in SOURCES.items()}

BUILTINS = set(
    "len range enumerate zip min max sum abs sorted reversed int str bool bytes list tuple dict set frozenset "
    "isinstance ord repr any all divmod pow getattr hasattr setattr iter next map super property staticmethod "
    "classmethod Exception ValueError TypeError KeyError IndexError LookupError ZeroDivisionError ArithmeticError "
    "OverflowError RuntimeError NotImplementedError AttributeError StopIteration NotImplemented".split()
)
METHODS = set(
    "append clear copy count endswith extend find get index insert isalnum isalpha isdigit islower isspace isupper "
    "items join keys ljust lower lstrip partition pop remove replace reverse rfind rjust rpartition rsplit rstrip "
    "setdefault split splitlines startswith strip update upper values zfill bit_length add discard".split()
)
NOWHERE = set("register mro elements open input law version_info with_traceback add_note".split())
NO_NAMES = set(
    "attrgetter breakpoint builtins compile copyright credits delattr dir eval exec exit gc globals help id importlib "
    "license locals methodcaller os quit type vars sys".split()
)
NO_WORDS = set(
    "type typing typing_extensions enum Enum IntEnum StrEnum Flag IntFlag Generic Protocol ABC ABCMeta namedtuple "
    "NamedTuple TypedDict TYPE_CHECKING abstractmethod".split()
)
# What may be imported from elsewhere.
LIBRARY = {"itertools": ("combinations",)}
ALLOWED = (
    ast.Module, ast.FunctionDef, ast.ClassDef, ast.arguments, ast.arg, ast.Assign, ast.AugAssign, ast.If, ast.While,
    ast.For, ast.Return, ast.Break, ast.Continue, ast.Pass, ast.Raise, ast.Assert, ast.Delete, ast.Expr, ast.Import,
    ast.ImportFrom, ast.alias, ast.Try, ast.ExceptHandler, ast.Name, ast.Attribute, ast.Subscript, ast.Slice, ast.Call,
    ast.keyword, ast.Constant, ast.Tuple, ast.List, ast.Dict, ast.Set, ast.ListComp, ast.DictComp, ast.SetComp,
    ast.GeneratorExp, ast.comprehension, ast.IfExp, ast.Lambda, ast.BinOp, ast.UnaryOp, ast.BoolOp, ast.Compare,
    ast.JoinedStr, ast.FormattedValue, ast.Starred, ast.expr_context, ast.boolop, ast.operator, ast.unaryop, ast.cmpop,
)


def nodes(*kinds):
    """All nodes of some kinds, with their files."""
    return [(path.name, node) for path, tree in TREES.items() for node in ast.walk(tree) if isinstance(node, kinds)]


def bound_in(tree):
    """All names that a tree binds, but those of attributes."""
    names = []
    for node in ast.walk(tree):
        if isinstance(node, (ast.FunctionDef, ast.ClassDef)):
            names.append(node.name)
        elif isinstance(node, ast.arg):
            names.append(node.arg)
        elif isinstance(node, ast.alias):
            names.append(node.asname or node.name)
        elif isinstance(node, ast.Name) and not isinstance(node.ctx, ast.Load):
            names.append(node.id)
        elif isinstance(node, ast.ExceptHandler) and node.name:
            names.append(node.name)
    return names


def top_level(tree):
    """The names that a file defines itself at its top."""
    names = []
    for node in tree.body:
        if isinstance(node, (ast.FunctionDef, ast.ClassDef)):
            names.append(node.name)
        elif isinstance(node, ast.Assign):
            names.extend(target.id for target in node.targets)
    return names


class Files(unittest.TestCase):
    def test_one_folder_of_plain_files(self):
        self.assertIn(PACKAGE / "__init__.py", FILES)
        for path in FILES:
            self.assertRegex(path.name, r"^(__init__|__main__|[a-z][a-z0-9_]*)\.py$")
            self.assertNotIn(path.stem, dir(builtins))
            self.assertFalse(path.stem.startswith(("law", "test", "site", "conftest")))

    def test_sizes(self):
        for path, text in SOURCES.items():
            self.assertLessEqual(len(text.split("\n")), 400, path.name)
            for line in text.split("\n"):
                self.assertLessEqual(len(line), 120, path.name)
        for name, node in nodes(ast.FunctionDef):
            self.assertLessEqual(node.end_lineno - node.lineno + 1, 40, (name, node.name))

    def test_signs(self):
        for path, text in SOURCES.items():
            self.assertFalse(set(text) - set(map(chr, range(32, 127))) - {"\n"}, path.name)

    def test_words(self):
        for path, text in SOURCES.items():
            code = re.sub(r'""".*?"""|#[^\n]*', "", text, flags=re.S)
            found = set(re.findall(r"\w+", code))
            self.assertFalse(found & (NO_WORDS | NOWHERE), path.name)
            self.assertFalse(re.search(r"dataclass|overload|contextmanager|_wall|_WallAttr", text), path.name)


class Imports(unittest.TestCase):
    def test_each_from_the_very_file(self):
        defined = {f"wishkeep.{path.stem}": top_level(tree) for path, tree in TREES.items()}
        defined.update(LIBRARY)
        self.assertEqual(nodes(ast.Import), [])
        for name, node in nodes(ast.ImportFrom):
            self.assertEqual(node.level, 0, name)
            for alias in node.names:
                self.assertIsNone(alias.asname, name)
                self.assertIn(alias.name, defined[node.module], name)

    def test_no_two_from_each_other(self):
        needs = {
            path.stem: {node.module.split(".")[-1] for node in tree.body if isinstance(node, ast.ImportFrom)}
            for path, tree in TREES.items()
        }
        while needs:
            free = [stem for stem, others in needs.items() if not others & set(needs)]
            self.assertTrue(free, needs)
            needs = {stem: others for stem, others in needs.items() if stem not in free}

    def test_all_are_used(self):
        for path, tree in TREES.items():
            read = {node.id for node in ast.walk(tree) if isinstance(node, ast.Name)}
            for node in tree.body:
                if isinstance(node, ast.ImportFrom):
                    self.assertFalse({alias.name for alias in node.names} - read, path.name)


class Code(unittest.TestCase):
    def test_top_level(self):
        for path, tree in TREES.items():
            self.assertEqual(len(top_level(tree)), len(set(top_level(tree))), path.name)
            for node in tree.body:
                if isinstance(node, ast.Expr):
                    self.assertIsInstance(node.value, ast.Constant, path.name)
                else:
                    kinds = (ast.FunctionDef, ast.ClassDef, ast.ImportFrom, ast.Assign)
                    self.assertIsInstance(node, kinds, path.name)

    def test_statements_and_values(self):
        for path, tree in TREES.items():
            for node in ast.walk(tree):
                self.assertIsInstance(node, ALLOWED, path.name)
                self.assertNotIsInstance(node, (ast.Div, ast.MatMult), path.name)
                if isinstance(node, ast.Constant):
                    self.assertNotIsInstance(node.value, (float, complex), path.name)
                if isinstance(node, ast.BinOp) and isinstance(node.op, ast.Pow):
                    self.assertIsInstance(node.right, ast.Constant, path.name)

    def test_no_decorators(self):
        for name, node in nodes(ast.FunctionDef, ast.ClassDef):
            self.assertEqual(node.decorator_list, [], name)

    def test_names_that_are_bound(self):
        for path, tree in TREES.items():
            imports = {a.name for node in tree.body if isinstance(node, ast.ImportFrom) for a in node.names}
            classes = {node.name for node in tree.body if isinstance(node, ast.ClassDef)}
            bound = bound_in(tree)
            for name in bound:
                self.assertNotIn(name, dir(builtins), path.name)
                self.assertNotIn(name, NOWHERE | NO_NAMES, path.name)
                self.assertRegex(name, r"^(__init__|_?[A-Za-z][A-Za-z0-9_]*|_)$", path.name)
            for name in imports | classes:
                self.assertEqual(bound.count(name), 1, (path.name, name))

    def test_builtins_that_are_read(self):
        for path, tree in TREES.items():
            bound = set(bound_in(tree))
            for node in ast.walk(tree):
                if isinstance(node, ast.Name) and node.id not in bound:
                    self.assertIn(node.id, BUILTINS, path.name)

    def test_methods_that_are_called(self):
        own = {
            item.name for _, node in nodes(ast.ClassDef) for item in node.body if isinstance(item, ast.FunctionDef)
        }
        self.assertFalse(own & METHODS)
        for name, node in nodes(ast.Call):
            if isinstance(node.func, ast.Attribute):
                self.assertIn(node.func.attr, METHODS | own, name)

    def test_is_stands_beside_none_and_truths(self):
        for name, node in nodes(ast.Compare):
            if any(isinstance(op, (ast.Is, ast.IsNot)) for op in node.ops):
                self.assertIsInstance(node.comparators[0], ast.Constant, name)

    def test_strings(self):
        for name, node in nodes(ast.Constant):
            if isinstance(node.value, str):
                self.assertNotIn("%", node.value, name)
                self.assertFalse(node.value.endswith(("._", ".__")), name)

    def test_sets_stand_where_they_may(self):
        allowed = []
        for _, node in nodes(ast.Call, ast.Compare):
            if isinstance(node, ast.Compare):
                allowed.extend(node.comparators)
            elif isinstance(node.func, ast.Name) and node.func.id in ("len", "sorted"):
                allowed.extend(node.args)
        for name, node in nodes(ast.Call, ast.SetComp, ast.Set):
            made = isinstance(node, (ast.SetComp, ast.Set))
            made = made or isinstance(node.func, ast.Name) and node.func.id in ("set", "frozenset")
            if made:
                self.assertIn(node, allowed, (name, node.lineno))

    def test_each_has_a_docstring(self):
        for path, tree in TREES.items():
            self.assertTrue(ast.get_docstring(tree), path.name)
        for name, node in nodes(ast.FunctionDef, ast.ClassDef):
            if node.name != "__init__":
                self.assertTrue(ast.get_docstring(node), (name, node.name))


if __name__ == "__main__":
    unittest.main()
