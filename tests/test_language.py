"""The form of the package's files: the rules of LANGUAGE.md that a plain look at the text or the tree can see."""

import ast
import builtins
import pathlib
import re
import unittest

PACKAGE = pathlib.Path(__file__).resolve().parent.parent / "apartrow"
BUILT_IN = (
    "len range enumerate zip min max sum abs sorted reversed int str bool list tuple dict set frozenset isinstance "
    "ord repr any all divmod Exception ValueError TypeError KeyError IndexError LookupError ZeroDivisionError "
    "ArithmeticError OverflowError RuntimeError NotImplementedError AttributeError StopIteration"
).split()
METHODS = (
    "append clear copy count endswith extend find get index insert isalnum isalpha isdigit islower isspace isupper "
    "items join keys ljust lower lstrip partition pop remove replace reverse rfind rjust rpartition rsplit rstrip "
    "setdefault split splitlines startswith strip update upper values zfill bit_length"
).split()
WALKED = "zip enumerate reversed range items keys values".split()
WALKERS = "list tuple dict sorted sum any all enumerate zip".split()
OWN_VALUES = "count index title find get join lower upper split strip copy add".split()
UNUSED_WORDS = (
    "type typing typing_extensions enum Enum IntEnum StrEnum Flag IntFlag Generic Protocol ABC ABCMeta namedtuple "
    "NamedTuple TypedDict TYPE_CHECKING abstractmethod"
).split()
STATEMENTS = (
    ast.Assign, ast.AugAssign, ast.If, ast.While, ast.For, ast.Return, ast.Break, ast.Continue, ast.Pass, ast.Raise,
    ast.Try, ast.Expr, ast.FunctionDef, ast.ClassDef, ast.ImportFrom,
)
NO_EXPRESSIONS = (
    ast.Set, ast.SetComp, ast.DictComp, ast.GeneratorExp, ast.NamedExpr, ast.Starred, ast.Await, ast.Yield,
    ast.YieldFrom, ast.Div, ast.MatMult,
)


def files():
    return sorted(PACKAGE.glob("*.py"))


def trees():
    return [(path, ast.parse(path.read_text("ascii"))) for path in files()]


def nodes(*kinds):
    return [(path.name, node) for path, tree in trees() for node in ast.walk(tree) if isinstance(node, kinds)]


class TextTest(unittest.TestCase):
    def test_nothing_but_plain_files(self):
        names = [path.name for path in PACKAGE.iterdir() if path.name != "__pycache__"]
        self.assertIn("__init__.py", names)
        for name in names:
            self.assertRegex(name, r"^(__init__|[a-z][a-z0-9_]*)\.py$")

    def test_signs_and_lengths(self):
        for path in files():
            text = path.read_bytes().decode("ascii")
            self.assertRegex(text, r"\A[ -~\n]*\Z", path.name)
            rows = text.split("\n")
            self.assertLessEqual(len(rows), 401, path.name)
            self.assertLessEqual(max(len(row) for row in rows), 120, path.name)

    def test_words_that_stand_nowhere(self):
        for path in files():
            words = re.findall(r"\w+", path.read_text("ascii"))
            self.assertEqual([word for word in words if word in UNUSED_WORDS], [], path.name)
            for word in words:
                self.assertNotRegex(word, "dataclass|overload|contextmanager")


class TreeTest(unittest.TestCase):
    def test_imports_are_of_the_package_alone(self):
        for name, node in nodes(ast.Import, ast.ImportFrom):
            self.assertIsInstance(node, ast.ImportFrom, name)
            self.assertEqual(node.level, 0, name)
            self.assertRegex(node.module, r"^apartrow\.[a-z]+$", name)
            self.assertNotIn("*", [alias.name for alias in node.names], name)

    def test_functions(self):
        for name, node in nodes(ast.FunctionDef):
            place = f"{name}: {node.name}"
            self.assertLessEqual(node.end_lineno - node.lineno + 1, 40, place)
            self.assertEqual(node.decorator_list, [], place)
            taken = node.args
            self.assertEqual((taken.vararg, taken.kwarg, taken.kwonlyargs, taken.posonlyargs), (None, None, [], []))

    def test_statements(self):
        for name, node in nodes(ast.stmt):
            self.assertIsInstance(node, STATEMENTS, f"{name}:{node.lineno}")
            if isinstance(node, ast.Assign):
                self.assertEqual(len(node.targets), 1, f"{name}:{node.lineno}")
            if isinstance(node, (ast.For, ast.While)):
                self.assertEqual(node.orelse, [], f"{name}:{node.lineno}")

    def test_expressions(self):
        self.assertEqual([(name, ast.dump(node)) for name, node in nodes(*NO_EXPRESSIONS)], [])
        for name, node in nodes(ast.Constant):
            self.assertIn(node.value.__class__, (int, str, bool, None.__class__), name)

    def test_names(self):
        for name, node in nodes(ast.Name, ast.arg, ast.FunctionDef, ast.ClassDef):
            word = getattr(node, "id", None) or getattr(node, "arg", None) or node.name
            if word == "__init__":
                continue
            self.assertRegex(word, r"^[A-Za-z][A-Za-z0-9_]*$", name)
            if hasattr(builtins, word):
                self.assertIn(word, BUILT_IN, name)
                self.assertIsInstance(node, ast.Name, f"{name}: {word}")
                self.assertIsInstance(node.ctx, ast.Load, f"{name}: {word}")

    def test_methods_and_values(self):
        own = {node.name for name, node in nodes(ast.FunctionDef)}
        kept = {node.attr for name, node in nodes(ast.Attribute) if isinstance(node.ctx, ast.Store)}
        self.assertEqual(own & kept, set())
        pythons = {word for value in ("", 0, [], (), {}, set(), b"") for word in dir(value)}
        self.assertEqual(kept & pythons - set(OWN_VALUES), set())
        for name, node in nodes(ast.Attribute):
            self.assertIn(node.attr, own | kept | set(METHODS), name)

    def test_is_stands_beside_none_true_and_false(self):
        for name, node in nodes(ast.Compare):
            if any(isinstance(sign, (ast.Is, ast.IsNot)) for sign in node.ops):
                self.assertIsInstance(node.comparators[0], ast.Constant, f"{name}:{node.lineno}")

    def test_texts_hold_plain_names(self):
        for name, node in nodes(ast.FormattedValue):
            self.assertIsInstance(node.value, ast.Name, f"{name}:{node.lineno}")
            self.assertIsNone(node.format_spec, f"{name}:{node.lineno}")
        for name, node in nodes(ast.Constant):
            self.assertNotIn("%", str(node.value), f"{name}:{node.lineno}")

    def test_the_top_of_a_file(self):
        for path, tree in trees():
            self.assertIsNotNone(ast.get_docstring(tree), path.name)
            for node in tree.body[1:]:
                self.assertIsInstance(
                    node, (ast.ImportFrom, ast.FunctionDef, ast.ClassDef, ast.Assign), f"{path.name}:{node.lineno}"
                )
                if isinstance(node, ast.Assign):
                    ast.literal_eval(node.value)
            bound = top_names(tree)
            self.assertEqual(len(bound), len(set(bound)), path.name)

    def test_no_local_is_called_like_a_class_or_an_import(self):
        for path, tree in trees():
            taken = {alias.name for node in tree.body if isinstance(node, ast.ImportFrom) for alias in node.names}
            taken |= {node.name for node in tree.body if isinstance(node, ast.ClassDef)}
            for node in ast.walk(tree):
                if isinstance(node, ast.arg):
                    self.assertNotIn(node.arg, taken, f"{path.name}:{node.lineno}")
                if isinstance(node, ast.Name) and isinstance(node.ctx, ast.Store):
                    self.assertNotIn(node.id, taken, f"{path.name}:{node.lineno}")

    def test_names_are_drawn_from_the_file_that_defines_them(self):
        defined = {
            path.stem: [name for node in tree.body if not isinstance(node, ast.ImportFrom) for name in bound_by(node)]
            for path, tree in trees()
        }
        for name, node in nodes(ast.ImportFrom):
            for alias in node.names:
                self.assertIsNone(alias.asname, name)
                self.assertIn(alias.name, defined[node.module.split(".")[1]], name)

    def test_no_two_files_draw_from_one_another(self):
        drawn = {path.stem: set() for path in files()}
        for name, node in nodes(ast.ImportFrom):
            drawn[name[:-3]].add(node.module.split(".")[1])
        while drawn:
            free = [name for name in drawn if not drawn[name] & set(drawn)]
            self.assertNotEqual(free, [], "files that draw from one another")
            drawn = {name: drawn[name] for name in drawn if name not in free}

    def test_walked_at_once(self):
        for path, tree in trees():
            fine = {id(place) for node in ast.walk(tree) for place in walking_places(node)}
            for node in ast.walk(tree):
                if isinstance(node, ast.Call) and called(node) in WALKED:
                    self.assertIn(id(node), fine, f"{path.name}:{node.lineno}")

    def test_sets_are_neither_kept_nor_walked(self):
        for path, tree in trees():
            fine = set()
            for node in ast.walk(tree):
                if isinstance(node, ast.Call) and called(node) in ("sorted", "len"):
                    fine |= {id(part) for part in node.args}
                if isinstance(node, ast.Compare):
                    fine |= {id(part) for part in [node.left] + node.comparators}
            for node in ast.walk(tree):
                if isinstance(node, ast.Call) and called(node) in ("set", "frozenset"):
                    self.assertIn(id(node), fine, f"{path.name}:{node.lineno}")


def bound_by(node):
    if isinstance(node, ast.ImportFrom):
        return [alias.name for alias in node.names]
    if isinstance(node, ast.Assign):
        return [node.targets[0].id]
    return [node.name] if isinstance(node, (ast.FunctionDef, ast.ClassDef)) else []


def top_names(tree):
    return [name for node in tree.body for name in bound_by(node)]


def called(node):
    return getattr(node.func, "id", None) or getattr(node.func, "attr", None)


def walking_places(node):
    if isinstance(node, (ast.For, ast.comprehension)):
        return [node.iter]
    if isinstance(node, ast.Call) and called(node) in WALKERS:
        return node.args if called(node) == "zip" else node.args[:1]
    if isinstance(node, ast.Call) and called(node) in ("min", "max") and len(node.args) == 1 and not node.keywords:
        return node.args
    return []


if __name__ == "__main__":
    unittest.main()
