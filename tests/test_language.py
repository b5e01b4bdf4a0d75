"""That the package's files keep to the part of Python that they may use."""

import ast
import builtins
import pathlib
import re
import unittest

PACKAGE = pathlib.Path(__file__).resolve().parent.parent / "settingoff"
FILES = sorted(path for path in PACKAGE.rglob("*") if path.is_file() and "__pycache__" not in path.parts)
TEXTS = {path: path.read_bytes().decode("utf-8") for path in FILES}
TREES = {path: ast.parse(text) for path, text in TEXTS.items()}

OWN_NAMES = set("""len range enumerate zip min max sum abs sorted reversed int str bool list tuple dict set frozenset
isinstance ord repr any all divmod Exception ValueError TypeError KeyError IndexError LookupError ZeroDivisionError
ArithmeticError OverflowError RuntimeError NotImplementedError AttributeError StopIteration True False None""".split())
METHODS = set("""append clear copy count endswith extend find get index insert isalnum isalpha isdigit islower isspace
isupper items join keys ljust lower lstrip partition pop remove replace reverse rfind rjust rpartition rsplit rstrip
setdefault split splitlines startswith strip update upper values zfill bit_length""".split())
WORDS = """type typing typing_extensions enum Enum IntEnum StrEnum Flag IntFlag Generic Protocol ABC ABCMeta namedtuple
NamedTuple TypedDict TYPE_CHECKING abstractmethod""".split()
WITHIN = ("dataclass", "overload", "contextmanager")
NEVER = set("""register mro elements open input version_info with_traceback add_note attrgetter breakpoint builtins
compile copyright credits delattr dir eval exec exit gc getattr globals hasattr help id importlib license locals
methodcaller os quit setattr super type vars sys chr print format format_map""".split())
FILE_NAMES = {"test", "tests", "testing", "site", "conftest", "sitecustomize", "usercustomize"}
VALUES_OF_OBJECTS = {"count", "index", "title", "find", "get", "join", "lower", "upper", "split", "strip", "copy", "add"}
TAKEN = {name for kind in (int, str, list, dict, set, bytes, tuple) for name in dir(kind)}
DUNDERS = {"__init__", "__eq__", "__repr__", "__str__", "__len__"}

STATEMENTS = (ast.Assign, ast.AugAssign, ast.If, ast.While, ast.For, ast.Return, ast.Break, ast.Continue, ast.Pass,
              ast.Raise, ast.Try, ast.Expr, ast.FunctionDef, ast.ClassDef, ast.ImportFrom)
EXPRESSIONS = (ast.Constant, ast.List, ast.Tuple, ast.Dict, ast.Set, ast.BinOp, ast.UnaryOp, ast.BoolOp, ast.Compare,
               ast.IfExp, ast.Call, ast.Attribute, ast.Subscript, ast.Slice, ast.ListComp, ast.JoinedStr,
               ast.FormattedValue, ast.Name, ast.Lambda)


def nodes(kind):
    return [(path, node) for path, tree in TREES.items() for node in ast.walk(tree) if isinstance(node, kind)]


def bound_names():
    """Every name that the package gives to something, with its file."""
    for path, node in nodes((ast.FunctionDef, ast.ClassDef)):
        yield path, node.name
    for path, node in nodes(ast.arg):
        yield path, node.arg
    for path, node in nodes(ast.Name):
        if isinstance(node.ctx, ast.Store):
            yield path, node.id


def is_plain(node, functions):
    if isinstance(node, ast.UnaryOp):
        return isinstance(node.op, ast.USub) and isinstance(node.operand, ast.Constant)
    if isinstance(node, ast.Tuple):
        return all(is_plain(part, functions) for part in node.elts)
    if isinstance(node, ast.Name):
        return node.id in functions
    return isinstance(node, ast.Constant) and isinstance(node.value, (int, str, type(None)))


class SizesAndSigns(unittest.TestCase):
    def test_files(self):
        self.assertIn(PACKAGE / "__init__.py", FILES)
        for path in FILES:
            self.assertEqual(path.parent, PACKAGE)
            self.assertRegex(path.name, r"^[a-z0-9_]+\.py$")
            self.assertNotIn(path.stem, FILE_NAMES | set(WORDS) | set(dir(builtins)))
            self.assertFalse(path.stem.startswith("test_"))

    def test_sizes(self):
        for path, text in TEXTS.items():
            rows = text.split("\n")
            self.assertLessEqual(len(rows) - 1, 400, path)
            self.assertLessEqual(max(map(len, rows)), 120, path)
        for path, node in nodes(ast.FunctionDef):
            self.assertLessEqual(node.end_lineno - node.lineno + 1, 40, (path, node.name))

    def test_signs(self):
        for path, text in TEXTS.items():
            self.assertEqual([sign for sign in text if sign != "\n" and not " " <= sign <= "~"], [], path)

    def test_words(self):
        for path, text in TEXTS.items():
            found = set(re.findall(r"\w+", text))
            self.assertEqual(found & set(WORDS), set(), path)
            self.assertEqual([word for word in WITHIN if word in text], [], path)


class Names(unittest.TestCase):
    def test_bound_names_are_plain_and_free(self):
        for path, name in bound_names():
            if name not in DUNDERS:
                self.assertRegex(name, r"^[A-Za-z][A-Za-z0-9_]*$", path)
                self.assertNotIn(name, NEVER | set(dir(builtins)), path)

    def test_no_local_is_called_like_an_import_or_class(self):
        for path, tree in TREES.items():
            taken = {alias.name for node in tree.body if isinstance(node, ast.ImportFrom) for alias in node.names}
            taken |= {node.name for node in tree.body if isinstance(node, ast.ClassDef)}
            for node in ast.walk(tree):
                own = node.arg if isinstance(node, ast.arg) else None
                if isinstance(node, ast.Name) and isinstance(node.ctx, ast.Store):
                    own = node.id
                self.assertNotIn(own, taken, path)

    def test_pythons_own_names(self):
        for path, node in nodes(ast.Name):
            if node.id in dir(builtins):
                self.assertIn(node.id, OWN_NAMES, path)

    def test_methods_and_values(self):
        for path, node in nodes(ast.Call):
            if isinstance(node.func, ast.Attribute):
                self.assertIn(node.func.attr, METHODS, path)
        for path, node in nodes(ast.Attribute):
            self.assertNotIn(node.attr, NEVER, path)
            if isinstance(node.ctx, ast.Store):
                self.assertNotIn(node.attr, TAKEN - VALUES_OF_OBJECTS, path)


class Forms(unittest.TestCase):
    def test_statements_and_expressions(self):
        for path, node in nodes(ast.stmt):
            self.assertIsInstance(node, STATEMENTS, (path, node.lineno))
            self.assertFalse(isinstance(node, ast.Assign) and len(node.targets) != 1, path)
            self.assertFalse(isinstance(node, (ast.For, ast.While)) and node.orelse, path)
        for path, node in nodes(ast.expr):
            self.assertIsInstance(node, EXPRESSIONS, (path, node.lineno))
            self.assertFalse(isinstance(node, ast.Constant) and isinstance(node.value, (float, bytes)), path)
            if isinstance(node, ast.ListComp):
                self.assertEqual(len(node.generators), 1, path)
                self.assertLessEqual(len(node.generators[0].ifs), 1, path)
        for path, node in nodes((ast.Div, ast.Pow, ast.MatMult)):
            self.fail(path)
        for path, node in nodes(ast.Compare):
            if any(isinstance(op, (ast.Is, ast.IsNot)) for op in node.ops):
                self.assertTrue(all(isinstance(side, ast.Constant) for side in node.comparators), path)

    def test_no_percent_sign_in_a_text(self):
        for path, node in nodes(ast.Constant):
            self.assertFalse(isinstance(node.value, str) and "%" in node.value, path)

    def test_functions_and_classes(self):
        for path, node in nodes(ast.FunctionDef):
            self.assertFalse(node.args.vararg or node.args.kwarg or node.args.kwonlyargs, (path, node.name))
            self.assertEqual(node.decorator_list, [])
        for path, node in nodes(ast.ClassDef):
            self.assertEqual((node.decorator_list, node.bases, node.keywords), ([], [], []))
            for part in node.body:
                self.assertTrue(isinstance(part, ast.FunctionDef) or isinstance(part, ast.Expr), (path, node.name))

    def test_walks_are_not_kept(self):
        for path, node in nodes((ast.Assign, ast.Return)):
            kept = node.value
            if isinstance(kept, ast.Call) and isinstance(kept.func, ast.Name):
                self.assertNotIn(kept.func.id, ("zip", "enumerate", "reversed", "range", "set"), path)

    def test_sets_are_not_kept(self):
        beside = []
        for path, node in nodes(ast.Call):
            if isinstance(node.func, ast.Name) and node.func.id in ("len", "sorted") and not node.keywords:
                beside.extend(node.args)
        for path, node in nodes(ast.Compare):
            beside.extend([node.left, *node.comparators])
        for path, node in nodes(ast.Call):
            if isinstance(node.func, ast.Name) and node.func.id in ("set", "frozenset"):
                self.assertTrue(any(node is one for one in beside), (path, node.lineno))
        self.assertEqual(nodes(ast.Set), [])

    def test_keywords(self):
        for path, node in nodes(ast.Call):
            for keyword in node.keywords:
                self.assertEqual(node.func.id, "sorted", (path, node.lineno))
                self.assertIn(keyword.arg, ("key", "reverse"))
                self.assertEqual(isinstance(keyword.value, ast.Constant), keyword.arg == "reverse")


class Tops(unittest.TestCase):
    def test_tops_hold_plain_values_bound_once(self):
        for path, tree in TREES.items():
            functions = set()
            seen = []
            for i, node in enumerate(tree.body):
                if isinstance(node, ast.Expr):
                    self.assertTrue(i == 0 and isinstance(node.value.value, str), path)
                elif isinstance(node, ast.ImportFrom):
                    seen.extend(alias.name for alias in node.names)
                elif isinstance(node, (ast.FunctionDef, ast.ClassDef)):
                    seen.append(node.name)
                    functions.add(node.name)
                else:
                    self.assertIsInstance(node, ast.Assign, path)
                    seen.append(node.targets[0].id)
                    parts = [node.value]
                    if isinstance(node.value, ast.Dict):
                        parts = node.value.keys + node.value.values
                    if isinstance(node.value, ast.List):
                        parts = node.value.elts
                    self.assertTrue(all(is_plain(part, functions) for part in parts), (path, seen[-1]))
            self.assertEqual(len(seen), len(set(seen)), path)

    def test_imports(self):
        drawn = {path.stem: set() for path in FILES}
        for path, node in nodes(ast.ImportFrom):
            self.assertIn(node, TREES[path].body)
            self.assertEqual(node.level, 0)
            self.assertRegex(node.module, r"^settingoff\.[a-z0-9_]+$")
            other = node.module.split(".")[1]
            drawn[path.stem].add(other)
            defined = {part.name for part in TREES[PACKAGE / f"{other}.py"].body if hasattr(part, "name")}
            defined |= {part.targets[0].id for part in TREES[PACKAGE / f"{other}.py"].body
                        if isinstance(part, ast.Assign)}
            for alias in node.names:
                self.assertIn(alias.name, defined, (path, other))
                self.assertIsNone(alias.asname)
        self.assertEqual(drawn["__init__"], set())
        while drawn:
            free = [name for name, others in drawn.items() if not others & set(drawn)]
            self.assertTrue(free, drawn)
            drawn = {name: others for name, others in drawn.items() if name not in free}


if __name__ == "__main__":
    unittest.main()
