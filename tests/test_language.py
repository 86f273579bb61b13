"""The package's files keep to the small part of Python that they are to be written in.

What is tested here is what can be told from the syntax alone; the rule's number stands beside each test.
"""

import ast
import pathlib
import re
import unittest

PACKAGE = pathlib.Path(__file__).resolve().parent.parent / "heldthingsdesk"

PYTHONS_OWN = """len range enumerate zip min max sum abs sorted reversed int str bool list tuple dict set frozenset
isinstance ord repr any all divmod Exception ValueError TypeError KeyError IndexError LookupError ZeroDivisionError
ArithmeticError OverflowError RuntimeError NotImplementedError AttributeError StopIteration""".split()

METHODS = """append clear copy count endswith extend find get index insert isalnum isalpha isdigit islower isspace
isupper items join keys ljust lower lstrip partition pop remove replace reverse rfind rjust rpartition rsplit rstrip
setdefault split splitlines startswith strip update upper values zfill bit_length""".split()

WORDS = """type typing typing_extensions enum Enum IntEnum StrEnum Flag IntFlag Generic Protocol ABC ABCMeta
namedtuple NamedTuple TypedDict TYPE_CHECKING abstractmethod""".split()

STATEMENTS = (
    ast.FunctionDef, ast.ClassDef, ast.ImportFrom, ast.Assign, ast.AugAssign, ast.If, ast.While, ast.For, ast.Return,
    ast.Break, ast.Continue, ast.Pass, ast.Raise, ast.Try, ast.Expr,
)

EXPRESSIONS = (
    ast.Constant, ast.Name, ast.List, ast.Tuple, ast.Dict, ast.BinOp, ast.UnaryOp, ast.Compare, ast.BoolOp, ast.IfExp,
    ast.Call, ast.Attribute, ast.Subscript, ast.Slice, ast.ListComp, ast.JoinedStr, ast.FormattedValue, ast.Lambda,
)


def files():
    return sorted(path for path in PACKAGE.rglob("*") if path.is_file() and "__pycache__" not in path.parts)


def trees():
    return [(path, ast.parse(path.read_text("ascii"))) for path in files()]


def nodes():
    return [(path, node) for path, tree in trees() for node in ast.walk(tree)]


def is_plain(node, functions):
    if isinstance(node, ast.UnaryOp):
        return isinstance(node.op, ast.USub) and is_plain(node.operand, functions)
    if isinstance(node, (ast.Tuple, ast.List)):
        return all(is_plain(one, functions) for one in node.elts)
    if isinstance(node, ast.Dict):
        return all(is_plain(one, functions) for one in node.keys + node.values)
    if isinstance(node, ast.Name):
        return node.id in functions
    return isinstance(node, ast.Constant)


class LanguageTest(unittest.TestCase):
    def each(self, nodes_of_kind, holds):
        for path, node in nodes_of_kind:
            self.assertTrue(holds(node), f"{path.name}, line {getattr(node, 'lineno', 0)}: {ast.dump(node)[:200]}")

    def of_kind(self, *kinds):
        return [(path, node) for path, node in nodes() if isinstance(node, kinds)]

    def test_l1_l14_files(self):
        self.assertIn(PACKAGE / "__init__.py", files())
        for path in files():
            self.assertRegex(path.name, r"\A(__init__|__main__|[a-z][a-z0-9_]*)\.py\Z")
            self.assertEqual(path.parent, PACKAGE)
            self.assertRegex(path.read_bytes(), rb"\A[ -~\n]*\Z")

    def test_l2_l16_imports(self):
        def holds(node):
            own = node.level == 0 and node.module.startswith("heldthingsdesk.")
            return own and all(name.name != "*" and name.asname is None for name in node.names)
        self.each(self.of_kind(ast.ImportFrom), holds)
        for path, node in self.of_kind(ast.ImportFrom):
            drawn = ast.parse((PACKAGE / (node.module.split(".")[1] + ".py")).read_text())
            made = [one.name for one in drawn.body if isinstance(one, (ast.FunctionDef, ast.ClassDef))]
            made += [one.targets[0].id for one in drawn.body if isinstance(one, ast.Assign)]
            for name in node.names:
                self.assertIn(name.name, made)

    def test_l3_l15_the_top_of_a_module(self):
        for path, tree in trees():
            functions = []
            bound = []
            for number, one in enumerate(tree.body):
                if isinstance(one, (ast.FunctionDef, ast.ClassDef)):
                    bound.append(one.name)
                    functions += [one.name] if isinstance(one, ast.FunctionDef) else []
                elif isinstance(one, ast.Assign):
                    bound.append(one.targets[0].id)
                    self.assertTrue(is_plain(one.value, functions), path.name)
                elif isinstance(one, ast.ImportFrom):
                    bound += [name.name for name in one.names]
                else:
                    self.assertTrue(number == 0 and isinstance(one, ast.Expr), path.name)
            self.assertEqual(len(bound), len(set(bound)), path.name)

    def test_l4_functions(self):
        def holds(node):
            given = node.args
            return not (node.decorator_list or given.vararg or given.kwarg or given.kwonlyargs or given.posonlyargs)
        self.each(self.of_kind(ast.FunctionDef), holds)

    def test_l5_l28_classes(self):
        def holds(node):
            bodies = [one for one in node.body if isinstance(one, ast.FunctionDef) or isinstance(one, ast.Expr)]
            named = [one.name for one in node.body if isinstance(one, ast.FunctionDef)]
            double = [name for name in named if name.startswith("__") and name != "__init__"]
            return len(bodies) == len(node.body) and not node.decorator_list and not node.bases and not double
        self.each(self.of_kind(ast.ClassDef), holds)

    def test_l6_statements(self):
        self.each(self.of_kind(ast.stmt), lambda node: isinstance(node, STATEMENTS))
        self.each(self.of_kind(ast.For, ast.While), lambda node: not node.orelse)
        self.each(self.of_kind(ast.Try), lambda node: not node.finalbody)
        self.each(self.of_kind(ast.Assign),
                  lambda node: len(node.targets) == 1 and not isinstance(node.targets[0], (ast.Tuple, ast.List)))

    def test_l7_expressions(self):
        sets = [node for path, node in nodes() if isinstance(node, ast.Set)]
        self.assertEqual(sets, [])
        self.each(self.of_kind(ast.expr), lambda node: isinstance(node, EXPRESSIONS))
        self.each(self.of_kind(ast.Constant),
                  lambda node: node.value is None or isinstance(node.value, (int, str, bool)))
        self.each(self.of_kind(ast.BinOp, ast.AugAssign), lambda node: not isinstance(node.op, (ast.Div, ast.MatMult)))
        self.each(self.of_kind(ast.ListComp),
                  lambda node: len(node.generators) == 1 and len(node.generators[0].ifs) <= 1)

    def test_l8_l12_names(self):
        for path, tree in trees():
            bound = set(PYTHONS_OWN)
            for node in ast.walk(tree):
                if isinstance(node, (ast.FunctionDef, ast.ClassDef)):
                    bound.add(node.name)
                if isinstance(node, ast.arg):
                    bound.add(node.arg)
                    self.assertNotIn(node.arg, PYTHONS_OWN)
                if isinstance(node, ast.alias):
                    bound.add(node.name)
                if isinstance(node, ast.Name) and isinstance(node.ctx, ast.Store):
                    bound.add(node.id)
                    self.assertNotIn(node.id, PYTHONS_OWN)
            for node in ast.walk(tree):
                if isinstance(node, ast.Name):
                    self.assertIn(node.id, bound, path.name)
            for name in bound - {"__init__"}:
                self.assertRegex(name, r"\A[A-Za-z][A-Za-z0-9_]*\Z")

    def test_l10_size(self):
        for path, tree in trees():
            rows = path.read_text().split("\n")
            self.assertLessEqual(len(rows), 400, path.name)
            self.assertLessEqual(max(len(row) for row in rows), 120, path.name)
        self.each(self.of_kind(ast.FunctionDef), lambda node: node.end_lineno - node.lineno < 40)

    def test_l15_locals(self):
        for path, tree in trees():
            taken = [one.name for one in tree.body if isinstance(one, ast.ClassDef)]
            taken += [name.name for one in tree.body if isinstance(one, ast.ImportFrom) for name in one.names]
            for node in ast.walk(tree):
                if isinstance(node, ast.arg):
                    self.assertNotIn(node.arg, taken, path.name)
                if isinstance(node, ast.Name) and isinstance(node.ctx, ast.Store):
                    self.assertNotIn(node.id, taken, path.name)

    def test_l16_no_two_files_draw_from_one_another(self):
        drawn = {}
        for path, node in self.of_kind(ast.ImportFrom):
            drawn.setdefault(path.stem, set()).add(node.module.split(".")[1])
        for start in drawn:
            seen = set()
            ahead = set(drawn[start])
            while ahead:
                one = ahead.pop()
                seen.add(one)
                ahead |= drawn.get(one, set()) - seen
            self.assertNotIn(start, seen)

    def test_l17_words(self):
        for path in files():
            words = re.findall(r"\w+", path.read_text())
            self.assertEqual([word for word in words if word in WORDS], [], path.name)

    def test_l18_methods_and_values_bear_different_names(self):
        methods = {one.name for path, node in self.of_kind(ast.ClassDef) for one in node.body
                   if isinstance(one, ast.FunctionDef)}
        values = {node.attr for path, node in self.of_kind(ast.Attribute) if isinstance(node.ctx, ast.Store)}
        self.assertEqual(methods & values, set())

    def test_l20_is(self):
        self.each(self.of_kind(ast.Compare),
                  lambda node: not any(isinstance(one, (ast.Is, ast.IsNot)) for one in node.ops)
                  or all(isinstance(one, ast.Constant) for one in node.comparators))

    def test_l21_annotations(self):
        self.each(self.of_kind(ast.FunctionDef), lambda node: node.returns is None)
        self.each(self.of_kind(ast.arg), lambda node: node.annotation is None)

    def test_l25_methods(self):
        methods = [one.name for path, node in self.of_kind(ast.ClassDef) for one in node.body
                   if isinstance(one, ast.FunctionDef)]
        called = [(path, node.func) for path, node in self.of_kind(ast.Call) if isinstance(node.func, ast.Attribute)]
        self.each(called, lambda node: node.attr in METHODS or node.attr in methods)

    def test_l27_texts(self):
        self.each(self.of_kind(ast.Constant),
                  lambda node: not (isinstance(node.value, str) and "%" in node.value))


if __name__ == "__main__":
    unittest.main()
