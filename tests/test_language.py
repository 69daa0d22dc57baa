"""The package is held to the rules of its language that a reading of its files can see.

Some rules are held more narrowly than they are written, where the package needs no more.
"""

import ast
import builtins
import pathlib
import re
import unittest

ROOT = pathlib.Path(__file__).resolve().parent.parent / "somesay"
BUILTINS = set("""len range enumerate zip min max sum abs sorted reversed int str bool bytes list tuple dict set frozenset
    isinstance ord repr any all divmod Exception ValueError TypeError KeyError IndexError LookupError ZeroDivisionError
    ArithmeticError OverflowError RuntimeError NotImplementedError AttributeError StopIteration""".split())
BUILTIN_METHODS = set("""append clear copy count endswith extend find get index insert isalnum isalpha isdigit islower
    isspace isupper items join keys ljust lower lstrip partition pop remove replace reverse rfind rjust rpartition rsplit
    rstrip setdefault split splitlines startswith strip update upper values zfill bit_length add discard sort
    removeprefix removesuffix isascii isdecimal""".split())
BARRED_NAMES = set("""register mro elements open input version_info with_traceback add_note attrgetter breakpoint builtins
    compile copyright credits delattr dir eval exec exit gc getattr globals hasattr help id importlib license locals
    methodcaller os quit setattr super type vars sys""".split())
BARRED_WORDS = set("""type typing typing_extensions enum Enum IntEnum StrEnum Flag IntFlag Generic Protocol ABC ABCMeta
    namedtuple NamedTuple TypedDict TYPE_CHECKING abstractmethod""".split())
BARRED_ATTRIBUTES = set("""items keys values pop update append clear extend insert remove reverse setdefault sort args encode
    decode hex fromhex format as_integer_ratio bit_count conjugate from_bytes is_integer to_bytes""".split())
KEYWORDS = {"sorted": {"key", "reverse"}, "min": {"key", "default"}, "max": {"key", "default"}, "sum": {"start"},
            "enumerate": {"start"}, "zip": {"strict"}}
MUST_BE_ITERATED = ("zip", "enumerate", "reversed", "range")
ITERATING = ("list", "tuple", "dict", "sorted", "sum", "any", "all", "enumerate", "zip", "bytes", "min", "max")
TAKING_GENERATORS = ("list", "tuple", "dict", "sorted", "sum", "min", "max", "any", "all")
BARRED_NODES = (ast.Global, ast.AsyncFunctionDef, ast.AsyncFor, ast.AsyncWith, ast.Await, ast.AnnAssign, ast.Div,
                ast.MatMult, ast.Import)
SPECIAL = {"__init__", "__eq__", "__repr__", "__str__", "__len__"}


def files():
    return sorted(ROOT.rglob("*.py"))


def trees():
    return [(path, ast.parse(path.read_text())) for path in files()]


def nodes(kind):
    return [(path, node) for path, tree in trees() for node in ast.walk(tree) if isinstance(node, kind)]


def parents(tree):
    return {child: node for node in ast.walk(tree) for child in ast.iter_child_nodes(node)}


def called(node):
    return node.func.id if isinstance(node, ast.Call) and isinstance(node.func, ast.Name) else None


def bound_at_top(tree):
    found = []
    for node in tree.body:
        if isinstance(node, (ast.FunctionDef, ast.ClassDef)):
            found.append(node.name)
        elif isinstance(node, ast.ImportFrom):
            found += [alias.asname or alias.name for alias in node.names]
        elif isinstance(node, ast.Assign):
            found += [target.id for target in node.targets]
    return found


def module_of(path):
    return "somesay" if path.name == "__init__.py" else "somesay." + path.stem


class FilesTest(unittest.TestCase):
    def test_only_plain_files(self):
        for path in ROOT.rglob("*"):
            if "__pycache__" not in path.parts:
                self.assertRegex(path.name, r"^[a-z_][a-z0-9_]*\.py$")
                self.assertFalse(path.stem in BUILTINS | BARRED_NAMES | BARRED_WORDS or path.stem in vars(builtins), path)
                self.assertFalse(path.stem.startswith(("test", "law_", "site", "conftest")), path)

    def test_characters_and_words(self):
        for path in files():
            text = path.read_text()
            self.assertRegex(text, r"\A[ -~\n]*\Z", path)
            words = set(re.findall(r"\w+", text))
            self.assertFalse(words & BARRED_WORDS, path)
            self.assertNotRegex(text, "dataclass|overload|contextmanager", path)

    def test_sizes(self):
        for path in files():
            rows = path.read_text().split("\n")
            self.assertLessEqual(len(rows), 400, path)
            self.assertLessEqual(max(map(len, rows)), 120, path)
        for path, node in nodes(ast.FunctionDef):
            self.assertLessEqual(node.end_lineno - node.lineno + 1, 40, (path, node.name))


class ImportsTest(unittest.TestCase):
    def test_each_names_the_file_that_defines_it(self):
        defined = {module_of(path): [n.name for n in tree.body if hasattr(n, "name")] + [
            target.id for n in tree.body if isinstance(n, ast.Assign) for target in n.targets] for path, tree in trees()}
        for path, node in nodes(ast.ImportFrom):
            self.assertEqual(node.level, 0, path)
            self.assertIn(node.module, defined, path)
            for alias in node.names:
                self.assertIn(alias.name, defined[node.module], path)

    def test_no_files_import_in_a_ring(self):
        wanted = {module_of(path): {node.module for node in ast.walk(tree) if isinstance(node, ast.ImportFrom)}
                  for path, tree in trees()}
        while wanted:
            ready = [name for name in wanted if not wanted[name] & set(wanted)]
            self.assertTrue(ready, wanted)
            wanted = {name: wanted[name] for name in wanted if name not in ready}

    def test_all_that_is_imported_is_used(self):
        for path, tree in trees():
            used = {node.id for node in ast.walk(tree) if isinstance(node, ast.Name)}
            for node in ast.walk(tree):
                if isinstance(node, ast.ImportFrom):
                    self.assertLessEqual({alias.name for alias in node.names}, used, path)


class TopTest(unittest.TestCase):
    def test_what_stands_at_module_level(self):
        for path, tree in trees():
            for at, node in enumerate(tree.body):
                docstring = at == 0 and isinstance(node, ast.Expr) and isinstance(node.value.value, str)
                kinds = (ast.ImportFrom, ast.FunctionDef, ast.ClassDef, ast.Assign)
                self.assertTrue(docstring or isinstance(node, kinds), (path, node.lineno))
                if isinstance(node, ast.Assign):
                    inner = [type(part) for part in ast.walk(node.value)]
                    self.assertFalse({ast.Call, ast.ListComp, ast.Set, ast.SetComp, ast.DictComp} & set(inner), path)
                    self.assertLessEqual(sum(kind in (ast.List, ast.Dict) for kind in inner), 1, path)

    def test_each_name_is_bound_once(self):
        for path, tree in trees():
            found = bound_at_top(tree)
            self.assertEqual(len(found), len(set(found)), path)

    def test_no_state_at_module_level(self):
        for path, tree in trees():
            tables = {node.targets[0].id for node in tree.body if isinstance(node, ast.Assign)}
            for node in ast.walk(tree):
                if isinstance(node, ast.Subscript) and isinstance(node.value, ast.Name) and node.value.id in tables:
                    self.assertIsInstance(node.ctx, ast.Load, (path, node.lineno))
                if isinstance(node, ast.Attribute) and isinstance(node.value, ast.Name) and node.value.id in tables:
                    self.assertIn(node.attr, ("get", "items", "keys", "values", "index", "count"), (path, node.lineno))

    def test_classes_stand_at_module_level(self):
        for path, node in nodes(ast.ClassDef):
            self.assertEqual(node.col_offset, 0, path)
            self.assertFalse(node.decorator_list or node.keywords, path)


class NamesTest(unittest.TestCase):
    def test_names_are_plain_and_not_barred(self):
        for path, tree in trees():
            for node in ast.walk(tree):
                for name in [getattr(node, field, None) for field in ("id", "arg", "name", "attr")]:
                    if isinstance(name, str) and name not in SPECIAL:
                        self.assertRegex(name, r"^[A-Za-z][A-Za-z0-9_]*$", path)
                        self.assertFalse(name in BARRED_NAMES, (path, node.lineno, name))

    def test_only_listed_builtins(self):
        for path, tree in trees():
            for node in ast.walk(tree):
                if isinstance(node, ast.Name) and node.id in vars(builtins):
                    self.assertIsInstance(node.ctx, ast.Load, (path, node.lineno))
                    self.assertIn(node.id, BUILTINS, (path, node.lineno))

    def test_locals_do_not_hide_builtins_classes_or_imports(self):
        for path, tree in trees():
            taken = {n.name for n in tree.body if isinstance(n, ast.ClassDef)} | {
                alias.name for n in tree.body if isinstance(n, ast.ImportFrom) for alias in n.names}
            for node in ast.walk(tree):
                stored = isinstance(node, ast.Name) and isinstance(node.ctx, ast.Store)
                name = node.arg if isinstance(node, ast.arg) else node.id if stored else None
                self.assertFalse(name and (name in taken or name in vars(builtins)), (path, name))

    def test_methods_and_attributes_do_not_share_names(self):
        methods = {node.name for _, kind in nodes(ast.ClassDef) for node in kind.body if isinstance(node, ast.FunctionDef)}
        stored = {node.attr for _, node in nodes(ast.Attribute) if isinstance(node.ctx, ast.Store)}
        self.assertFalse(methods & stored)
        self.assertFalse(stored & BARRED_ATTRIBUTES)
        for path, node in nodes(ast.Attribute):
            self.assertIn(node.attr, methods | stored | BUILTIN_METHODS | SPECIAL, (path, node.lineno))


class RowsTest(unittest.TestCase):
    def test_no_barred_statements_or_signs(self):
        for path, node in nodes(BARRED_NODES):
            self.fail((path, ast.dump(node)))
        for path, node in nodes((ast.FunctionDef, ast.Lambda)):
            given = node.args
            self.assertFalse(given.posonlyargs or given.kwonlyargs or given.vararg or given.kwarg, (path, node.lineno))
            self.assertFalse([arg for arg in given.args if arg.annotation], (path, node.lineno))
        for path, node in nodes(ast.Constant):
            self.assertIn(type(node.value), (int, str, bool, type(None)), (path, node.lineno))
            self.assertFalse(isinstance(node.value, str) and "%" in node.value, (path, node.lineno))
        for path, node in nodes(ast.BinOp):
            if isinstance(node.op, ast.Pow):
                self.assertIsInstance(node.right, ast.Constant, (path, node.lineno))

    def test_is_only_with_none_true_and_false(self):
        for path, node in nodes(ast.Compare):
            for sign, right in zip(node.ops, node.comparators):
                if isinstance(sign, (ast.Is, ast.IsNot)):
                    self.assertTrue(isinstance(right, ast.Constant) and right.value in (None, True, False), path)

    def test_keywords_of_builtins(self):
        for path, node in nodes(ast.Call):
            given = {keyword.arg for keyword in node.keywords}
            if called(node) in BUILTINS:
                self.assertLessEqual(given, KEYWORDS.get(called(node), set()), (path, node.lineno))
            elif isinstance(node.func, ast.Attribute) and node.func.attr in BUILTIN_METHODS:
                self.assertFalse(given, (path, node.lineno))

    def test_iterated_at_once(self):
        for path, tree in trees():
            above = parents(tree)
            for node in ast.walk(tree):
                if called(node) in MUST_BE_ITERATED:
                    over = above[node]
                    looped = isinstance(over, (ast.For, ast.comprehension)) and over.iter == node
                    asked = isinstance(over, ast.Compare) and called(node) == "range"
                    self.assertTrue(looped or asked or called(over) in ITERATING or called(over) == "reversed", (path, node.lineno))
                if isinstance(node, ast.GeneratorExp):
                    self.assertIn(called(above[node]), TAKING_GENERATORS, (path, node.lineno))
                if isinstance(node, (ast.SetComp, ast.Set)) or called(node) == "set":
                    self.assertTrue(called(above[node]) in ("sorted", "len") or isinstance(above[node], (
                        ast.Compare, ast.Assign)), (path, node.lineno))

    def test_errors_are_made_on_the_spot_and_caught_by_name(self):
        for path, node in nodes(ast.Raise):
            self.assertTrue(node.exc is None or isinstance(node.exc, ast.Call), (path, node.lineno))
        for path, node in nodes(ast.ExceptHandler):
            self.assertIsNotNone(node.type, (path, node.lineno))
            self.assertNotIn(getattr(node.type, "id", None), ("Exception", "TypeError"), (path, node.lineno))


if __name__ == "__main__":
    unittest.main()
