"""Those of LANGUAGE.md's rules that are checked here, by their numbers; the others are left to the reader."""

import ast
import builtins
import keyword
import pathlib
import re
import unittest

PACKAGE = pathlib.Path(__file__).resolve().parent.parent / "elderline"

STATEMENTS = (
    ast.Assign, ast.AugAssign, ast.If, ast.While, ast.For, ast.Return, ast.Break, ast.Continue, ast.Pass,
    ast.Raise, ast.Try, ast.FunctionDef,
)
BARRED = (
    ast.With, ast.Delete, ast.Global, ast.Nonlocal, ast.Assert, ast.Yield, ast.YieldFrom, ast.Await, ast.Starred,
    ast.SetComp, ast.DictComp, ast.GeneratorExp, ast.NamedExpr, ast.Div, ast.AnnAssign, ast.MatMult,
)
OWN_NAMES = """len range enumerate zip min max sum abs sorted reversed int str bool list tuple dict set frozenset
isinstance ord repr any all divmod Exception ValueError TypeError KeyError IndexError LookupError ZeroDivisionError
ArithmeticError OverflowError RuntimeError NotImplementedError AttributeError StopIteration""".split()
METHODS = """append clear copy count endswith extend find get index insert isalnum isalpha isdigit islower isspace
isupper items join keys ljust lower lstrip partition pop remove replace reverse rfind rjust rpartition rsplit rstrip
setdefault split splitlines startswith strip update upper values zfill bit_length""".split()
READING = "get index count items keys values".split()
READERS = "len sorted list tuple dict sum any all min max enumerate zip reversed".split()
WALKED = "zip enumerate reversed range".split()
TAKERS = "list tuple dict sorted sum any all enumerate zip".split()
KEYS = "len int str abs sum min max tuple".split()
KEYWORDS = {
    "sorted": ["key", "reverse"], "min": ["key", "default"], "max": ["key", "default"], "sum": ["start"],
    "enumerate": ["start"], "zip": ["strict"],
}
TAKEN_AS_YOU_LIKE = "KeyError ZeroDivisionError StopIteration".split()
KINDS = (str, int, list, dict, set, bytes, tuple)
FREE_VALUES = "count index title find get join lower upper split strip copy add".split()
FREE_METHODS = METHODS + ["add", "discard"]
DOUBLE = ["__init__", "__eq__", "__repr__", "__str__", "__len__"]
WORDS = """type typing typing_extensions enum Enum IntEnum StrEnum Flag IntFlag Generic Protocol ABC ABCMeta
namedtuple NamedTuple TypedDict TYPE_CHECKING abstractmethod""".split()


def files():
    return sorted(PACKAGE.glob("*.py"))


def nodes(tree, kind):
    return [node for node in ast.walk(tree) if isinstance(node, kind)]


def trees():
    return [(path, ast.parse(path.read_text(encoding="ascii"), path.name)) for path in files()]


def defaults(tree):
    """Every default of a parameter, also of functions within functions and of lambdas."""
    told = [node.args for node in nodes(tree, (ast.FunctionDef, ast.AsyncFunctionDef, ast.Lambda))]
    return [one for args in told for one in args.defaults + args.kw_defaults if one is not None]


def is_written_value(node):
    return isinstance(node, ast.Constant) and type(node.value) in (int, str, bool, type(None))


def parents(tree):
    return {child: node for node in ast.walk(tree) for child in ast.iter_child_nodes(node)}


def methods_of_classes():
    defined = [one for path, tree in trees() for one in nodes(tree, ast.ClassDef)]
    return {node.name for one in defined for node in nodes(one, ast.FunctionDef)}


def values_of_objects():
    stored = [node for path, tree in trees() for node in nodes(tree, ast.Attribute)]
    return {node.attr for node in stored if isinstance(node.ctx, ast.Store)}


def is_only_read(node, above):
    """Whether this use of a list or dict of a file's top only reads it."""
    if isinstance(above, ast.Attribute):
        return above.attr in READING
    if isinstance(above, ast.Subscript):
        return above.value is node and isinstance(above.ctx, ast.Load)
    if isinstance(above, ast.Call):
        return isinstance(above.func, ast.Name) and above.func.id in READERS
    return isinstance(above, (ast.Compare, ast.For, ast.comprehension))


def is_walked(node, above):
    """Whether what must be walked at once, such as a zip, is walked where it stands."""
    if isinstance(above, (ast.For, ast.comprehension)):
        return above.iter is node
    if not isinstance(above, ast.Call):
        return False
    if isinstance(above.func, ast.Attribute):
        return above.func.attr == "join" and isinstance(above.func.value, ast.Constant)
    if above.func.id in ("min", "max"):
        return above.args == [node]
    return above.func.id in TAKERS and (above.args[0] is node or above.func.id == "zip")


def is_key(node, above):
    return isinstance(above, ast.keyword) and above.arg == "key" and node.id in KEYS


class Language(unittest.TestCase):
    def test_l1_l14_files(self):
        self.assertTrue((PACKAGE / "__init__.py").is_file())
        for path in PACKAGE.iterdir():
            if path.name == "__pycache__":
                continue
            with self.subTest(path.name):
                self.assertRegex(path.name, r"\A([a-z][a-z0-9_]*|__init__|__main__)\.py\Z")
                self.assertNotIn(path.stem, dir(builtins) + keyword.kwlist + WORDS)
                self.assertTrue(all(sign == 10 or 32 <= sign <= 126 for sign in path.read_bytes()))

    def test_l2_l16_imports(self):
        drawn = {}
        for path, tree in trees():
            self.assertEqual(nodes(tree, ast.Import), [])
            rows = nodes(tree, ast.ImportFrom)
            self.assertTrue(all(row in tree.body and row.level == 0 for row in rows))
            self.assertTrue(all(row.module.startswith("elderline.") for row in rows))
            self.assertTrue(all(alias.name != "*" for row in rows for alias in row.names))
            drawn[path.stem] = {row.module.split(".")[1] for row in rows}
        while drawn:
            last = [name for name in drawn if not drawn[name] & set(drawn)]
            self.assertTrue(last, f"these draw from one another: {sorted(drawn)}")
            drawn = {name: drawn[name] for name in drawn if name not in last}

    def test_l3_l15_top(self):
        for path, tree in trees():
            self.assertIsNotNone(ast.get_docstring(tree))
            for node in tree.body[1:]:
                self.assertIsInstance(node, (ast.ImportFrom, ast.FunctionDef, ast.ClassDef, ast.Assign))
            bound = [node.name for node in tree.body if isinstance(node, (ast.FunctionDef, ast.ClassDef))]
            bound += [row.targets[0].id for row in tree.body if isinstance(row, ast.Assign)]
            bound += [alias.asname or alias.name for row in nodes(tree, ast.ImportFrom) for alias in row.names]
            self.assertEqual(len(bound), len(set(bound)))

    def test_l3_l15_values_of_the_top(self):
        for path, tree in trees():
            above = parents(tree)
            for row in [node for node in tree.body if isinstance(node, ast.Assign)]:
                value = ast.literal_eval(row.value)
                if not isinstance(value, (list, dict)):
                    continue
                self.assertEqual(len(nodes(row.value, (ast.List, ast.Dict))), 1)
                for node in nodes(tree, ast.Name):
                    if node.id == row.targets[0].id and isinstance(node.ctx, ast.Load):
                        self.assertTrue(is_only_read(node, above[node]), f"{path.name}:{node.lineno}")

    def test_l4_functions(self):
        for path, tree in trees():
            for function in nodes(tree, (ast.FunctionDef, ast.Lambda)):
                told = function.args
                self.assertEqual((told.vararg, told.kwarg, told.kwonlyargs, told.posonlyargs), (None, None, [], []))
            for function in nodes(tree, ast.FunctionDef):
                self.assertEqual((function.decorator_list, function.returns), ([], None))
            for told in nodes(tree, ast.arg):
                self.assertIsNone(told.annotation)

    def test_l4_defaults(self):
        for path, tree in trees():
            for node in defaults(tree):
                self.assertTrue(is_written_value(node), f"{path.name}:{node.lineno}")

    def test_l4_every_default_is_looked_at(self):
        for form in ("def f(a, b={}): pass", "class C:\n def f(self, a={}): pass", "f = lambda a, b={}: a",
                     "def f():\n def g(a={}): pass", "class C:\n def f(self):\n  return lambda a={}: a",
                     "def f(a, *, b={}): pass"):
            for value in ("0", "40", "'a'", "''", "True", "False", "None"):
                told = defaults(ast.parse(form.replace("{}", value)))
                self.assertEqual([is_written_value(node) for node in told], [True], (form, value))
            for value in ("()", "(1,)", "[]", "{}", "set()", "f", "-1", "1 + 1", "1.5", "b''", "...", "f''", "len"):
                told = defaults(ast.parse(form.replace("{}", value)))
                self.assertEqual([is_written_value(node) for node in told], [False], (form, value))

    def test_l5_classes(self):
        for path, tree in trees():
            for one in nodes(tree, ast.ClassDef):
                self.assertIn(one, tree.body)
                self.assertLessEqual(len(one.bases), 1)
                self.assertEqual((one.decorator_list, one.keywords), ([], []))
                self.assertTrue(all(isinstance(node, (ast.FunctionDef, ast.Pass)) for node in one.body))

    def test_l6_l7_statements_and_expressions(self):
        for path, tree in trees():
            self.assertEqual(nodes(tree, BARRED), [])
            for function in nodes(tree, ast.FunctionDef):
                for node in nodes(function, ast.stmt):
                    call = isinstance(node, ast.Expr) and isinstance(node.value, ast.Call)
                    self.assertTrue(call or isinstance(node, STATEMENTS), ast.dump(node))
            for node in nodes(tree, (ast.For, ast.While)):
                self.assertEqual(node.orelse, [])
            for node in nodes(tree, ast.Try):
                self.assertEqual(node.finalbody, [])
            for node in nodes(tree, ast.Assign):
                self.assertEqual([isinstance(target, ast.Tuple) for target in node.targets], [False])
            for node in nodes(tree, ast.ListComp):
                self.assertEqual(len(node.generators), 1)
                self.assertLessEqual(len(node.generators[0].ifs), 1)
            for node in nodes(tree, ast.Constant):
                self.assertIn(type(node.value), (int, str, bool, type(None)))

    def test_l7_l27_f_strings(self):
        for path, tree in trees():
            for node in nodes(tree, ast.FormattedValue):
                self.assertIsInstance(node.value, ast.Name)
                self.assertIsNone(node.format_spec)
                self.assertIn(node.conversion, (-1, ord("r")))

    def test_l8_l12_l15_names(self):
        for path, tree in trees():
            stored = [node.id for node in nodes(tree, ast.Name) if isinstance(node.ctx, ast.Store)]
            stored += [node.arg for node in nodes(tree, ast.arg)]
            stored += [node.name for node in nodes(tree, ast.ExceptHandler) if node.name]
            defined = [node.name for node in nodes(tree, (ast.FunctionDef, ast.ClassDef))]
            drawn = [alias.asname or alias.name for row in nodes(tree, ast.ImportFrom) for alias in row.names]
            known = stored + defined + drawn
            for name in stored + defined:
                self.assertRegex(name, r"\A[A-Za-z]|\A__[a-z]+__\Z")
                self.assertNotIn(name, dir(builtins))
                self.assertTrue(not name.startswith("__") or name in DOUBLE)
            for name in stored:
                self.assertNotIn(name, drawn + [one.name for one in nodes(tree, ast.ClassDef)])
            for node in nodes(tree, ast.Name):
                self.assertIn(node.id, known + OWN_NAMES)

    def test_l10_size(self):
        for path, tree in trees():
            lines = path.read_text().split("\n")
            self.assertLessEqual(len(lines), 400)
            self.assertLessEqual(max(len(line) for line in lines), 120)
            for function in nodes(tree, ast.FunctionDef):
                self.assertLessEqual(function.end_lineno - function.lineno + 1, 40)

    def test_l13_two_lambdas_on_a_line(self):
        for path, tree in trees():
            told = [(node.lineno, ast.dump(node.args)) for node in nodes(tree, ast.Lambda)]
            self.assertEqual(len(told), len(set(told)))

    def test_l17_words(self):
        for path in files():
            text = path.read_text()
            self.assertEqual(sorted(set(re.findall(r"\w+", text)) & set(WORDS)), [])
            self.assertIsNone(re.search("dataclass|overload|contextmanager", text))

    def test_l18_l26_methods_and_values(self):
        methods = methods_of_classes()
        values = values_of_objects()
        taken = {name for kind in KINDS for name in dir(kind)}
        self.assertEqual(sorted(methods & values), [])
        self.assertEqual(sorted((methods & taken) - set(FREE_METHODS + DOUBLE)), [])
        self.assertEqual(sorted(values & (taken | {"args", "encode", "format"}) - set(FREE_VALUES)), [])

    def test_l18_no_method_twice(self):
        for path, tree in trees():
            for one in nodes(tree, ast.ClassDef):
                names = [node.name for node in one.body if isinstance(node, ast.FunctionDef)]
                self.assertEqual(len(names), len(set(names)))

    def test_l19_errors(self):
        own = {one.name for path, tree in trees() for one in nodes(tree, ast.ClassDef) if path.stem == "errors"}
        for path, tree in trees():
            for node in nodes(tree, ast.ExceptHandler):
                self.assertIsInstance(node.type, ast.Name)
                self.assertIn(node.type.id, sorted(own) + TAKEN_AS_YOU_LIKE)
                for raised in nodes(node, ast.Raise):
                    self.assertIn(getattr(raised.cause, "id", None), (None, node.name))
            for node in nodes(tree, ast.Raise):
                self.assertIsInstance(node.exc, ast.Call)
                self.assertIn(node.exc.func.id, own)
                self.assertEqual(node.exc.keywords, [])

    def test_l20_is(self):
        for path, tree in trees():
            for node in nodes(tree, ast.Compare):
                for sign, right in zip(node.ops, node.comparators):
                    if isinstance(sign, (ast.Is, ast.IsNot)):
                        self.assertIsInstance(right, ast.Constant)
                        self.assertIn(type(right.value), (bool, type(None)))

    def test_l22_own_names_are_called(self):
        for path, tree in trees():
            above = parents(tree)
            for node in nodes(tree, ast.Name):
                if node.id not in OWN_NAMES:
                    continue
                around = above[node]
                called = isinstance(around, ast.Call) and around.func is node
                beside = around if isinstance(around, ast.Call) else above[around]
                kind = isinstance(beside, ast.Call) and getattr(beside.func, "id", "") == "isinstance"
                base = isinstance(around, (ast.ClassDef, ast.ExceptHandler))
                self.assertTrue(called or kind or base or is_key(node, around), f"{path.name}:{node.lineno}")

    def test_l22_keywords(self):
        for path, tree in trees():
            for call in nodes(tree, ast.Call):
                told = [one.arg for one in call.keywords]
                if isinstance(call.func, ast.Name) and call.func.id in OWN_NAMES:
                    self.assertLessEqual(set(told), set(KEYWORDS.get(call.func.id, [])))
                if isinstance(call.func, ast.Attribute) and call.func.attr in METHODS:
                    self.assertEqual(told, [])

    def test_l23_walked_at_once(self):
        for path, tree in trees():
            above = parents(tree)
            for call in nodes(tree, ast.Call):
                name = getattr(call.func, "attr", getattr(call.func, "id", ""))
                if name in (["items", "keys", "values"] if isinstance(call.func, ast.Attribute) else WALKED):
                    self.assertTrue(is_walked(call, above[call]), f"{path.name}:{call.lineno}")

    def test_l24_sets(self):
        for path, tree in trees():
            above = parents(tree)
            self.assertEqual(nodes(tree, ast.Set), [])
            for call in nodes(tree, ast.Call):
                if isinstance(call.func, ast.Name) and call.func.id == "set":
                    around = above[call]
                    while isinstance(around, ast.BinOp):
                        around = above[around]
                    asked = isinstance(around, ast.Call) and around.func.id in ("sorted", "len")
                    self.assertTrue(asked and not around.keywords or isinstance(around, ast.Compare))

    def test_l25_methods(self):
        for path, tree in trees():
            for call in nodes(tree, ast.Call):
                if isinstance(call.func, ast.Attribute):
                    self.assertIn(call.func.attr, METHODS + sorted(methods_of_classes()))

    def test_l27_signs_in_texts(self):
        for path, tree in trees():
            for node in nodes(tree, ast.Constant):
                self.assertFalse(isinstance(node.value, str) and chr(37) in node.value)

    def test_l27_powers(self):
        for path, tree in trees():
            for node in nodes(tree, ast.BinOp):
                if isinstance(node.op, ast.Pow):
                    self.assertTrue(is_written_value(node.right), f"{path.name}:{node.lineno}")
                    self.assertTrue(0 <= node.right.value <= 64, f"{path.name}:{node.lineno}")

    def test_l28_making_gives_back_nothing(self):
        for path, tree in trees():
            for function in nodes(tree, ast.FunctionDef):
                if function.name == "__init__":
                    self.assertEqual([node.value for node in nodes(function, ast.Return) if node.value], [])


if __name__ == "__main__":
    unittest.main()
