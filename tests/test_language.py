"""Those rules of the language (../shared/LANGUAGE.md) that a look at the text can hold the program to."""

import ast
import builtins
import os
import re
import unittest

FOLDER = os.path.join(os.path.dirname(os.path.dirname(os.path.abspath(__file__))), "tieword")

STATEMENTS = (ast.FunctionDef, ast.ClassDef, ast.Return, ast.Assign, ast.AugAssign, ast.For, ast.While, ast.If,
              ast.Raise, ast.Try, ast.ImportFrom, ast.Expr, ast.Pass, ast.Break, ast.Continue)
BANNED = (ast.DictComp, ast.SetComp, ast.GeneratorExp, ast.NamedExpr, ast.Starred, ast.Await, ast.Yield,
          ast.YieldFrom, ast.Div, ast.MatMult)
OWN_NAMES = """len range enumerate zip min max sum abs sorted reversed int str bool list tuple dict set frozenset
isinstance ord repr any all divmod Exception ValueError TypeError KeyError IndexError LookupError ZeroDivisionError
ArithmeticError OverflowError RuntimeError NotImplementedError AttributeError StopIteration""".split()
METHODS = """append clear copy count endswith extend find get index insert isalnum isalpha isdigit islower isspace
isupper items join keys ljust lower lstrip partition pop remove replace reverse rfind rjust rpartition rsplit rstrip
setdefault split splitlines startswith strip update upper values zfill bit_length""".split()
WORDS = """type typing typing_extensions enum Enum IntEnum StrEnum Flag IntFlag Generic Protocol ABC ABCMeta
namedtuple NamedTuple TypedDict TYPE_CHECKING abstractmethod""".split()
UNUSED = """register mro elements open input version_info with_traceback add_note attrgetter breakpoint builtins compile
copyright credits delattr dir eval exec exit gc getattr globals hasattr help id importlib license locals methodcaller os
quit setattr super type vars sys""".split()
WALKED = ["zip", "enumerate", "reversed", "range", "items", "keys", "values"]
WALKERS = "list tuple dict sorted sum any all enumerate zip min max join".split()
SPECIAL = ["__init__", "__eq__", "__repr__", "__str__", "__len__"]


def read_files():
    texts = {}
    for name in sorted(os.listdir(FOLDER)):
        if name != "__pycache__":
            with open(os.path.join(FOLDER, name), encoding="utf-8", newline="") as file:
                texts[name] = file.read()
    return texts


def is_text(node):
    return isinstance(node, ast.Expr) and isinstance(node.value, ast.Constant) and isinstance(node.value.value, str)


def bound_names(node):
    if isinstance(node, (ast.FunctionDef, ast.ClassDef)):
        return [node.name]
    if isinstance(node, ast.arg):
        return [node.arg]
    if isinstance(node, ast.Name) and isinstance(node.ctx, ast.Store):
        return [node.id]
    return []


def called(call):
    return getattr(call.func, "id", getattr(call.func, "attr", None))


def names_at_top(tree):
    names = []
    for node in tree.body:
        names += bound_names(node)
        if isinstance(node, ast.Assign):
            names += bound_names(node.targets[0])
    return names


class Language(unittest.TestCase):
    @classmethod
    def setUpClass(cls):
        cls.texts = read_files()
        cls.trees = {name: ast.parse(text) for name, text in cls.texts.items() if name.endswith(".py")}

    def nodes(self):
        for name, tree in self.trees.items():
            for node in ast.walk(tree):
                yield f"{name}:{getattr(node, 'lineno', 0)}", node

    def test_files_and_signs(self):
        self.assertIn("__init__.py", self.texts)
        for name, text in self.texts.items():
            self.assertRegex(name, r"\A[a-z0-9_]+\.py\Z")
            self.assertTrue(all(sign == "\n" or " " <= sign <= "~" for sign in text), name)

    def test_sizes(self):
        for name, text in self.texts.items():
            rows = text.split("\n")
            self.assertLessEqual(len(rows), 400, name)
            self.assertLessEqual(max(map(len, rows)), 120, name)
        for where, node in self.nodes():
            if isinstance(node, ast.FunctionDef):
                self.assertLessEqual(node.end_lineno - node.lineno + 1, 40, where)

    def test_words_that_stand_nowhere(self):
        for name, text in self.texts.items():
            for word in re.findall(r"\w+", text):
                self.assertNotIn(word, WORDS, name)
            self.assertNotRegex(text, "dataclass|overload|contextmanager", name)

    def test_statements_and_expressions(self):
        for where, node in self.nodes():
            if isinstance(node, ast.stmt):
                self.assertIsInstance(node, STATEMENTS, where)
            self.assertNotIsInstance(node, BANNED, where)
            if isinstance(node, ast.Expr):
                self.assertTrue(is_text(node) or isinstance(node.value, ast.Call), where)
            if isinstance(node, ast.Assign):
                self.assertEqual(len(node.targets), 1, where)
            if isinstance(node, (ast.For, ast.While)):
                self.assertEqual(node.orelse, [], where)
            if isinstance(node, ast.Try):
                self.assertEqual(node.finalbody, [], where)
            if isinstance(node, ast.ListComp):
                self.assertEqual(len(node.generators), 1, where)
                self.assertLessEqual(len(node.generators[0].ifs), 1, where)
            if isinstance(node, ast.Constant):
                self.assertIsInstance(node.value, (int, str, type(None)), where)
                self.assertNotIn("%", str(node.value), where)
            if isinstance(node, ast.FormattedValue):
                self.assertIsInstance(node.value, ast.Name, where)
            if isinstance(node, ast.Compare) and any(isinstance(op, (ast.Is, ast.IsNot)) for op in node.ops):
                self.assertIsInstance(node.comparators[0], ast.Constant, where)
            if isinstance(node, ast.BinOp) and isinstance(node.op, ast.Pow):
                self.assertIsInstance(node.right, ast.Constant, where)

    def test_defs_and_classes(self):
        for where, node in self.nodes():
            if isinstance(node, (ast.FunctionDef, ast.ClassDef)):
                self.assertEqual(node.decorator_list, [], where)
            if isinstance(node, ast.arguments):
                self.assertEqual((node.vararg, node.kwarg, node.kwonlyargs), (None, None, []), where)
            if isinstance(node, ast.ClassDef):
                self.assertLessEqual(len(node.bases), 1, where)
                for inner in node.body:
                    self.assertTrue(is_text(inner) or isinstance(inner, (ast.FunctionDef, ast.Pass)), where)

    def test_names(self):
        methods = [inner for where, node in self.nodes() if isinstance(node, ast.ClassDef) for inner in node.body]
        for where, node in self.nodes():
            if isinstance(node, ast.Name) and node.id in vars(builtins):
                self.assertIn(node.id, OWN_NAMES, where)
            for name in bound_names(node):
                self.assertTrue(name in SPECIAL or not name.startswith("_"), where)
                self.assertTrue(node in methods or name not in vars(builtins), where)

    def test_methods(self):
        own = set()
        for where, node in self.nodes():
            if isinstance(node, ast.FunctionDef):
                own.add(node.name)
            if isinstance(node, ast.Attribute) and isinstance(node.ctx, ast.Store):
                own.add(node.attr)
        for where, node in self.nodes():
            if isinstance(node, ast.Attribute):
                self.assertTrue(node.attr in own or node.attr in METHODS, where)

    def test_names_that_are_not_used(self):
        for where, node in self.nodes():
            names = bound_names(node)
            if isinstance(node, ast.Name):
                names.append(node.id)
            if isinstance(node, ast.Attribute):
                names.append(node.attr)
            self.assertFalse(set(names) & set(UNUSED), where)

    def test_no_local_is_called_like_a_class_or_an_import(self):
        for name, tree in self.trees.items():
            taken = [node.name for node in tree.body if isinstance(node, ast.ClassDef)]
            for node in tree.body:
                if isinstance(node, ast.ImportFrom):
                    taken += [alias.name for alias in node.names]
            for node in ast.walk(tree):
                if isinstance(node, (ast.arg, ast.Name)):
                    self.assertFalse(set(bound_names(node)) & set(taken), f"{name}:{node.lineno}")

    def test_no_name_is_a_method_here_and_a_value_there(self):
        methods, values = set(), set()
        for where, node in self.nodes():
            if isinstance(node, ast.ClassDef):
                methods.update(inner.name for inner in node.body if isinstance(inner, ast.FunctionDef))
            if isinstance(node, ast.Attribute) and isinstance(node.ctx, ast.Store):
                values.add(node.attr)
        self.assertEqual(methods & values, set())

    def test_walked_at_once(self):
        fine = set()
        for where, node in self.nodes():
            if isinstance(node, (ast.For, ast.comprehension)):
                fine.add(node.iter)
            if isinstance(node, ast.Call) and called(node) in WALKERS:
                fine.update(node.args)
        for where, node in self.nodes():
            if isinstance(node, ast.Call) and called(node) in WALKED:
                self.assertIn(node, fine, where)

    def test_sets_stand_within_sorted_or_len_or_beside_in(self):
        fine = set()
        for where, node in self.nodes():
            if isinstance(node, ast.Call) and called(node) in ("sorted", "len") and not node.keywords:
                fine.update(node.args)
            if isinstance(node, ast.Compare) and isinstance(node.ops[0], (ast.In, ast.NotIn)):
                fine.update(node.comparators)
        for where, node in self.nodes():
            if isinstance(node, (ast.Set, ast.Call)) and (isinstance(node, ast.Set) or called(node) == "set"):
                self.assertIn(node, fine, where)

    def test_names_at_a_files_top_are_bound_once(self):
        for name, tree in self.trees.items():
            names = names_at_top(tree)
            for node in tree.body:
                if isinstance(node, ast.ImportFrom):
                    names += [alias.asname or alias.name for alias in node.names]
            self.assertEqual(len(set(names)), len(names), name)

    def test_imports(self):
        draws = {}
        for name, tree in self.trees.items():
            draws[name] = []
            for node in ast.walk(tree):
                self.assertNotIsInstance(node, ast.Import, name)
                if isinstance(node, ast.ImportFrom):
                    self.assertEqual(node.level, 0, name)
                    self.assertRegex(node.module, r"\Atieword\.[a-z0-9_]+\Z")
                    source = node.module.split(".")[1] + ".py"
                    draws[name].append(source)
                    for alias in node.names:
                        self.assertIn(alias.name, names_at_top(self.trees[source]), name)
        left = set(draws)
        while left:
            free = {name for name in left if not left.intersection(draws[name])}
            self.assertTrue(free, f"these draw from one another: {sorted(left)}")
            left -= free


if __name__ == "__main__":
    unittest.main()
