"""Holds the package to the rules of ../shared/LANGUAGE.md that a plain reading of the code can see."""

import ast
import builtins
import pathlib
import re
import unittest

PACKAGE = pathlib.Path(__file__).resolve().parent.parent / "leadnames"

OWN_NAMES = set("""len range enumerate zip min max sum abs sorted reversed int str bool list tuple dict set frozenset
isinstance ord repr any all divmod Exception ValueError TypeError KeyError IndexError LookupError ZeroDivisionError
ArithmeticError OverflowError RuntimeError NotImplementedError AttributeError StopIteration""".split())

OWN_METHODS = set("""append clear copy count endswith extend find get index insert isalnum isalpha isdigit islower
isspace isupper items join keys ljust lower lstrip partition pop remove replace reverse rfind rjust rpartition rsplit
rstrip setdefault split splitlines startswith strip update upper values zfill bit_length""".split())

FREE_VALUES = set("count index title find get join lower upper split strip copy add".split())

TWO_UNDERSCORES = ("__init__", "__eq__", "__repr__", "__str__", "__len__")

FORBIDDEN_WORDS = """type typing typing_extensions enum Enum IntEnum StrEnum Flag IntFlag Generic Protocol ABC ABCMeta
namedtuple NamedTuple TypedDict TYPE_CHECKING abstractmethod""".split()

FORBIDDEN_NAMES = set("register mro elements open input version_info with_traceback add_note format format_map".split())

FORBIDDEN_NODES = (
    ast.With, ast.Match, ast.Delete, ast.Global, ast.Nonlocal, ast.Assert, ast.Yield, ast.YieldFrom, ast.Await,
    ast.AsyncFor, ast.AsyncWith, ast.AsyncFunctionDef, ast.SetComp, ast.DictComp, ast.GeneratorExp, ast.NamedExpr,
    ast.Starred, ast.Div, ast.MatMult, ast.Import,
)


def package_files():
    return sorted(path for path in PACKAGE.rglob("*") if path.is_file() and "__pycache__" not in path.parts)


def source_of(path):
    return path.read_text(encoding="utf-8")


def trees():
    return [(path, ast.parse(source_of(path))) for path in package_files()]


def all_nodes():
    return [(path, node) for path, tree in trees() for node in ast.walk(tree)]


def top_names(tree):
    names = [node.name for node in tree.body if isinstance(node, (ast.FunctionDef, ast.ClassDef))]
    assigned = [node for node in tree.body if isinstance(node, ast.Assign)]
    return names + [target.id for node in assigned for target in node.targets]


def methods_and_values():
    methods, values = set(), set()
    for path, node in all_nodes():
        if isinstance(node, ast.ClassDef):
            methods.update(part.name for part in node.body if isinstance(part, ast.FunctionDef))
        if isinstance(node, ast.Attribute) and isinstance(node.ctx, ast.Store):
            values.add(node.attr)
    return methods, values


def imported_names(tree):
    return [alias.name for node in tree.body if isinstance(node, ast.ImportFrom) for alias in node.names]


def own_class_names(tree):
    return [node.name for node in tree.body if isinstance(node, ast.ClassDef)]


def bound_names(node):
    if isinstance(node, (ast.FunctionDef, ast.ClassDef)):
        return [node.name]
    if isinstance(node, ast.arg):
        return [node.arg]
    if isinstance(node, ast.Name) and isinstance(node.ctx, ast.Store):
        return [node.id]
    if isinstance(node, ast.Attribute) and isinstance(node.ctx, ast.Store):
        return [node.attr]
    return []


class Language(unittest.TestCase):

    def where(self, path, node, rule):
        return f"{rule}: {path.name}:{getattr(node, 'lineno', '?')}"

    def test_files(self):
        self.assertIn(PACKAGE / "__init__.py", package_files())
        for path in package_files():
            self.assertRegex(path.name, r"^[a-z0-9_]+\.py$")
            self.assertNotRegex(path.stem, r"^(test.*|site|conftest|sitecustomize|usercustomize)$")
            self.assertNotIn(path.stem, vars(builtins), path)

    def test_signs_and_sizes(self):
        for path in package_files():
            source = source_of(path)
            self.assertTrue(all(sign == "\n" or " " <= sign <= "~" for sign in source), path)
            rows = source.splitlines()
            self.assertLessEqual(len(rows), 400, path)
            self.assertLessEqual(max([len(row) for row in rows], default=0), 120, path)
        for path, node in all_nodes():
            if isinstance(node, ast.FunctionDef):
                self.assertLessEqual(node.end_lineno - node.lineno + 1, 40, self.where(path, node, "L10"))

    def test_words_that_stand_nowhere(self):
        whole = re.compile(r"\b(" + "|".join(FORBIDDEN_WORDS) + r")\b|dataclass|overload|contextmanager")
        for path in package_files():
            self.assertIsNone(whole.search(source_of(path)), path)

    def test_nodes(self):
        for path, node in all_nodes():
            self.assertNotIsInstance(node, FORBIDDEN_NODES, self.where(path, node, "L6, L7"))
            if isinstance(node, ast.Constant):
                self.assertNotIsInstance(node.value, (float, complex, bytes), self.where(path, node, "L7"))
                self.assertFalse(isinstance(node.value, str) and "%" in node.value, self.where(path, node, "L27"))
            if isinstance(node, (ast.For, ast.While)):
                self.assertEqual(node.orelse, [], self.where(path, node, "L6"))
            if isinstance(node, ast.Try):
                self.assertEqual(node.finalbody, [], self.where(path, node, "L6"))
            if isinstance(node, ast.Assign):
                self.assertEqual(len(node.targets), 1, self.where(path, node, "L6"))
            if isinstance(node, (ast.FunctionDef, ast.ClassDef)):
                self.assertEqual(node.decorator_list, [], self.where(path, node, "L4, L5"))

    def test_parameters_are_plain(self):
        for path, node in all_nodes():
            if isinstance(node, ast.arguments):
                self.assertEqual((node.vararg, node.kwarg, node.kwonlyargs, node.posonlyargs), (None, None, [], []))

    def test_imports(self):
        defined = {"leadnames." + path.stem: top_names(tree) for path, tree in trees()}
        drawn = {module: [] for module in defined}
        for path, node in all_nodes():
            if isinstance(node, ast.ImportFrom):
                self.assertEqual(node.level, 0, self.where(path, node, "L2"))
                for alias in node.names:
                    self.assertIn(alias.name, defined.get(node.module, []), self.where(path, node, "L16"))
                drawn["leadnames." + path.stem].append(node.module)
        left = dict(drawn)
        while left:
            free = [module for module in left if not any(other in left for other in left[module])]
            self.assertNotEqual(free, [], "L16: a ring of imports")
            left = {module: left[module] for module in left if module not in free}

    def test_names(self):
        for path, node in all_nodes():
            for name in bound_names(node):
                if name not in TWO_UNDERSCORES:
                    self.assertRegex(name, r"^[A-Za-z][A-Za-z0-9_]*$", self.where(path, node, "L12"))
                self.assertNotIn(name, FORBIDDEN_NAMES, self.where(path, node, "L17"))
                if not isinstance(node, (ast.Attribute, ast.FunctionDef)):
                    self.assertNotIn(name, vars(builtins), self.where(path, node, "L15"))
            if isinstance(node, ast.Name) and isinstance(node.ctx, ast.Load) and node.id in vars(builtins):
                self.assertIn(node.id, OWN_NAMES, self.where(path, node, "L8"))

    def test_each_top_name_once(self):
        for path, tree in trees():
            self.assertEqual(len(top_names(tree)), len(set(top_names(tree))), path)
            self.assertEqual([name for name in top_names(tree) if name in vars(builtins)], [], path)

    def test_methods_and_values(self):
        methods, values = methods_and_values()
        self.assertEqual(methods & values, set())
        known = methods | values | OWN_METHODS | set(TWO_UNDERSCORES)
        for path, node in all_nodes():
            if isinstance(node, ast.Attribute):
                self.assertIn(node.attr, known, self.where(path, node, "L25"))

    def test_methods_and_values_are_free_names(self):
        taken = set()
        for kind in (str, int, list, dict, set, bytes):
            taken.update(name for name in dir(kind) if not name.startswith("_"))
        methods, values = methods_and_values()
        self.assertEqual(methods & (taken - OWN_METHODS - {"add", "discard"}), set())
        self.assertEqual(values & (taken - FREE_VALUES), set())

    def test_locals_are_not_called_like_classes_or_imports(self):
        for path, tree in trees():
            kept = imported_names(tree) + own_class_names(tree)
            for node in ast.walk(tree):
                if isinstance(node, ast.arg) or (isinstance(node, ast.Name) and isinstance(node.ctx, ast.Store)):
                    for name in bound_names(node):
                        self.assertNotIn(name, kept, self.where(path, node, "L15"))

    def test_classes_hold_methods_alone_and_stand_at_the_top(self):
        for path, tree in trees():
            inner = [node for node in ast.walk(tree) if isinstance(node, ast.ClassDef)]
            self.assertEqual(len(inner), len(own_class_names(tree)), path)
            for node in inner:
                self.assertLessEqual(len(node.bases), 1, self.where(path, node, "L5"))
                names = [part.name for part in node.body if isinstance(part, ast.FunctionDef)]
                self.assertEqual(len(names), len(set(names)), self.where(path, node, "L18"))
                for part in node.body:
                    self.assertIsInstance(part, (ast.FunctionDef, ast.Pass), self.where(path, node, "L5"))

    def test_comprehensions_and_annotations(self):
        for path, node in all_nodes():
            if isinstance(node, ast.ListComp):
                self.assertEqual(len(node.generators), 1, self.where(path, node, "L7"))
                self.assertLessEqual(len(node.generators[0].ifs), 1, self.where(path, node, "L7"))
            self.assertNotIsInstance(node, ast.AnnAssign, self.where(path, node, "L21"))
            self.assertIsNone(getattr(node, "annotation", None), self.where(path, node, "L21"))
            self.assertIsNone(getattr(node, "returns", None), self.where(path, node, "L21"))

    def test_statements_that_stand_alone_are_calls(self):
        for path, tree in trees():
            told = [node for node in ast.walk(tree) if isinstance(node, ast.Expr) and node is not tree.body[0]]
            for node in told:
                self.assertIsInstance(node.value, ast.Call, self.where(path, node, "L6"))

    def is_plain(self, node, functions):
        if isinstance(node, (ast.List, ast.Tuple)):
            return all(self.is_plain(one, functions) for one in node.elts)
        if isinstance(node, ast.Dict):
            return all(self.is_plain(one, functions) for one in node.keys + node.values)
        return isinstance(node, ast.Constant) or (isinstance(node, ast.Name) and node.id in functions)

    def test_the_top_of_a_module(self):
        for path, tree in trees():
            functions = []
            for node in tree.body[1:]:
                self.assertIsInstance(node, (ast.ImportFrom, ast.FunctionDef, ast.ClassDef, ast.Assign), path)
                if isinstance(node, ast.FunctionDef):
                    functions.append(node.name)
                if isinstance(node, ast.Assign):
                    self.assertTrue(self.is_plain(node.value, functions), self.where(path, node, "L3"))
                    if isinstance(node.value, (ast.List, ast.Dict)):
                        inner = [one for one in ast.walk(node.value) if isinstance(one, (ast.List, ast.Dict))]
                        self.assertEqual(len(inner), 1, self.where(path, node, "L15"))

    def test_what_is_kept_at_the_top_is_only_read(self):
        for path, tree in trees():
            kept = [node.targets[0].id for node in tree.body
                    if isinstance(node, ast.Assign) and isinstance(node.value, (ast.List, ast.Dict))]
            read = [node.value for node in ast.walk(tree) if isinstance(node, ast.Subscript)]
            asked = [right for node in ast.walk(tree) if isinstance(node, ast.Compare) for right in node.comparators]
            for node in ast.walk(tree):
                if isinstance(node, ast.Name) and node.id in kept and isinstance(node.ctx, ast.Load):
                    self.assertIn(node, read + asked, self.where(path, node, "L15"))

    def test_keywords(self):
        allowed = {"sorted": {"key", "reverse"}, "min": {"key", "default"}, "max": {"key", "default"}, "sum": {"start"},
                   "enumerate": {"start"}, "zip": {"strict"}}
        for path, node in all_nodes():
            if isinstance(node, ast.Call) and isinstance(node.func, ast.Name) and node.func.id in vars(builtins):
                names = {keyword.arg for keyword in node.keywords}
                self.assertLessEqual(names, allowed.get(node.func.id, set()), self.where(path, node, "L22"))
            if isinstance(node, ast.Call) and isinstance(node.func, ast.Attribute) and node.func.attr in OWN_METHODS:
                self.assertEqual(node.keywords, [], self.where(path, node, "L22"))

    def test_walked_at_once(self):
        walkers = ("list", "tuple", "dict", "sorted", "sum", "any", "all", "enumerate", "zip", "min", "max")
        for path, tree in trees():
            at_once = []
            for node in ast.walk(tree):
                if isinstance(node, (ast.For, ast.comprehension)):
                    at_once.append(node.iter)
                if isinstance(node, ast.Call) and isinstance(node.func, ast.Name) and node.func.id in walkers:
                    at_once.extend(node.args[:1])
            for node in ast.walk(tree):
                if isinstance(node, ast.Call):
                    name = getattr(node.func, "id", None) or "." + getattr(node.func, "attr", "")
                    if name in ("zip", "enumerate", "reversed", "range", ".items", ".keys", ".values"):
                        self.assertIn(node, at_once, self.where(path, node, "L23"))
                    self.assertNotIn(name, ("set", "frozenset", "chr"), self.where(path, node, "L24, L27"))

    def test_errors_are_raised_on_the_spot(self):
        for path, node in all_nodes():
            if isinstance(node, ast.Raise):
                self.assertIsInstance(node.exc, ast.Call, self.where(path, node, "L19"))

    def test_is(self):
        for path, node in all_nodes():
            if isinstance(node, ast.Compare):
                for operator, right in zip(node.ops, node.comparators):
                    if isinstance(operator, (ast.Is, ast.IsNot)):
                        self.assertIsInstance(right, ast.Constant, self.where(path, node, "L20"))
                        self.assertIn(right.value, (None, True, False), self.where(path, node, "L20"))


if __name__ == "__main__":
    unittest.main()
