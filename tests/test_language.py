"""The package's own files keep to the rules of the language (L1 to L28) that can be seen in its syntax."""

import ast
import builtins
import os
import re
import unittest

ROOT = os.path.dirname(os.path.dirname(os.path.abspath(__file__)))
PACKAGE = os.path.join(ROOT, "farjump")

OWN_NAMES = set("""len range enumerate zip min max sum abs sorted reversed int str bool list tuple dict set frozenset
isinstance ord repr any all divmod Exception ValueError TypeError KeyError IndexError LookupError ZeroDivisionError
ArithmeticError OverflowError RuntimeError NotImplementedError AttributeError StopIteration""".split())
OWN_METHODS = set("""append clear copy count endswith extend find get index insert isalnum isalpha isdigit islower isspace
isupper items join keys ljust lower lstrip partition pop remove replace reverse rfind rjust rpartition rsplit rstrip
setdefault split splitlines startswith strip update upper values zfill bit_length""".split())
DUNDERS = ("__init__", "__eq__", "__repr__", "__str__", "__len__")
NODES = tuple(getattr(ast, name) for name in """Module Expr ImportFrom alias FunctionDef ClassDef arguments arg Assign
AugAssign If While For Return Break Continue Pass Raise Try ExceptHandler Name Attribute Subscript Slice Constant List Tuple
Dict Set Call keyword Lambda ListComp comprehension IfExp Compare BoolOp UnaryOp BinOp JoinedStr FormattedValue expr_context
operator unaryop boolop cmpop""".split())
NO_WORDS = set("""type typing typing_extensions enum Enum IntEnum StrEnum Flag IntFlag Generic Protocol ABC ABCMeta
namedtuple NamedTuple TypedDict TYPE_CHECKING abstractmethod register mro elements open input version_info with_traceback
add_note""".split())
NO_WORDS_WITHIN = ("dataclass", "overload", "contextmanager")
WALKED = ("zip", "enumerate", "reversed", "range")
WALKED_METHODS = ("items", "keys", "values")
WALKERS = ("list", "tuple", "dict", "sorted", "sum", "any", "all", "enumerate", "zip")
TABLE_READERS = WALKERS + ("len", "min", "max", "reversed")
KEYWORDS = {"sorted": ("key", "reverse"), "min": ("key", "default"), "max": ("key", "default"), "sum": ("start",),
            "enumerate": ("start",), "zip": ("strict",)}
NO_VALUES = set("""items keys values pop update append clear extend insert remove reverse setdefault sort args encode
format""".split())


def files():
    return sorted(name for name in os.listdir(PACKAGE) if name != "__pycache__")


def text_of(name):
    with open(os.path.join(PACKAGE, name), encoding="utf-8", newline="") as file:
        return file.read()


def trees():
    return [(name, ast.parse(text_of(name))) for name in files()]


def nodes(kind):
    return [(name, node) for name, tree in trees() for node in ast.walk(tree) if isinstance(node, kind)]


def top_names(tree):
    names = []
    for node in tree.body:
        if isinstance(node, (ast.FunctionDef, ast.ClassDef)):
            names.append(node.name)
        if isinstance(node, ast.Assign):
            names.extend(target.id for target in node.targets)
    return names


def own_methods():
    return {node.name for file, owner in nodes(ast.ClassDef) for node in owner.body if isinstance(node, ast.FunctionDef)}


def own_values():
    return {node.attr for file, node in nodes(ast.Attribute) if isinstance(node.ctx, ast.Store)}


def name_of_call(node):
    return node.func.id if isinstance(node, ast.Call) and isinstance(node.func, ast.Name) else None


def with_parents():
    """Each node with the one it stands in."""
    return [(name, node, above) for name, tree in trees() for above in ast.walk(tree) for node in ast.iter_child_nodes(above)]


def is_walked_by(node, above):
    if isinstance(above, (ast.For, ast.comprehension)):
        return above.iter is node
    if name_of_call(above) in WALKERS:
        return above.args[0] is node or name_of_call(above) in ("enumerate", "zip")
    if name_of_call(above) in ("min", "max"):
        return above.args == [node]
    return isinstance(above, ast.Call) and isinstance(above.func, ast.Attribute) and above.func.attr == "join"


def top_tables(tree):
    return {node.targets[0].id: node.value for node in tree.body
            if isinstance(node, ast.Assign) and isinstance(node.value, (ast.List, ast.Dict))}


def only_reads(node, above):
    if isinstance(above, ast.Subscript):
        return above.value is node and isinstance(above.ctx, ast.Load)
    if isinstance(above, ast.Attribute):
        return above.attr in ("get", "count", "index") + WALKED_METHODS
    return isinstance(above, ast.Compare) or is_walked_by(node, above) or name_of_call(above) in TABLE_READERS


class Language(unittest.TestCase):
    def test_files(self):
        self.assertIn("__init__.py", files())
        for name in files():
            self.assertRegex(name, r"\A([a-z][a-z0-9_]*|__init__|__main__)\.py\Z")

    def test_signs_and_sizes(self):
        for name in files():
            with self.subTest(name):
                text = text_of(name)
                self.assertRegex(text, r"\A[ -~\n]*\Z")
                self.assertLessEqual(len(text.splitlines()), 400)
                self.assertLessEqual(max(len(line) for line in text.splitlines()), 120)
        for name, node in nodes(ast.FunctionDef):
            self.assertLessEqual(node.end_lineno - node.lineno + 1, 40, (name, node.name))

    def test_words_that_are_not_used(self):
        for name in files():
            with self.subTest(name):
                self.assertEqual(NO_WORDS & set(re.findall(r"\w+", text_of(name))), set())
                for word in NO_WORDS_WITHIN:
                    self.assertNotIn(word, text_of(name))

    def test_forms(self):
        for name, tree in trees():
            for node in ast.walk(tree):
                self.assertIsInstance(node, NODES, (name, getattr(node, "lineno", None)))

    def test_only_a_file_has_a_docstring(self):
        for name, node in nodes(ast.Expr):
            if not isinstance(node.value, ast.Call):
                self.assertEqual(node.lineno, 1, (name, node.lineno))

    def test_imports(self):
        defined = {name: top_names(tree) for name, tree in trees()}
        drawn = {name: set() for name in files()}
        for name, node in nodes(ast.ImportFrom):
            self.assertEqual((node.level, node.module.split(".")[0]), (0, "farjump"), (name, node.lineno))
            source = node.module.split(".")[1] + ".py"
            drawn[name].add(source)
            for one in node.names:
                self.assertIn(one.name, defined[source])
                self.assertIsNone(one.asname)
        while drawn:
            free = [name for name in drawn if not drawn[name] & set(drawn)]
            self.assertNotEqual(free, [], "files draw from one another")
            drawn = {name: sources for name, sources in drawn.items() if name not in free}

    def test_functions_and_classes_are_plain(self):
        for name, node in nodes(ast.FunctionDef):
            more = (node.args.vararg, node.args.kwarg, node.args.kwonlyargs, node.args.posonlyargs, node.decorator_list)
            self.assertEqual(more, (None, None, [], [], []), (name, node.name))
        for name, node in nodes(ast.ClassDef):
            self.assertEqual((node.decorator_list, node.keywords), ([], []), (name, node.name))
            self.assertLessEqual(len(node.bases), 1)
            for one in node.body:
                self.assertIsInstance(one, (ast.FunctionDef, ast.Pass), (name, node.name))

    def test_statements_are_plain(self):
        for name, node in nodes(ast.Assign):
            self.assertEqual(len(node.targets), 1, (name, node.lineno))
        for name, node in nodes((ast.While, ast.For)):
            self.assertEqual(node.orelse, [], (name, node.lineno))
        for name, node in nodes(ast.Try):
            self.assertEqual(node.finalbody, [], (name, node.lineno))
        for name, node in nodes(ast.ListComp):
            self.assertEqual(len(node.generators), 1, (name, node.lineno))
            self.assertLessEqual(len(node.generators[0].ifs), 1, (name, node.lineno))

    def test_names(self):
        python = set(vars(builtins))
        for name, tree in trees():
            top = top_names(tree)
            self.assertEqual(len(top), len(set(top)), name)
            imported = {one.asname or one.name for node in ast.walk(tree) if isinstance(node, ast.ImportFrom)
                        for one in node.names}
            owners = {node.name for node in ast.walk(tree) if isinstance(node, ast.ClassDef)}
            for node in ast.walk(tree):
                if isinstance(node, ast.Name) and isinstance(node.ctx, ast.Load):
                    self.assertNotIn(node.id, python - OWN_NAMES, (name, node.lineno))
                bound = node.arg if isinstance(node, ast.arg) else None
                if isinstance(node, ast.Name) and isinstance(node.ctx, ast.Store):
                    bound = node.id
                if bound is not None:
                    self.assertRegex(bound, r"\A[A-Za-z]\w*\Z")
                    self.assertNotIn(bound, python | imported | owners, (name, node.lineno))

    def test_methods_and_values(self):
        self.assertEqual(own_methods() & own_values(), set())
        self.assertEqual(own_values() & NO_VALUES, set())
        for method in own_methods():
            self.assertTrue(method in DUNDERS or not method.startswith("_"), method)
        for name, node in nodes(ast.Attribute):
            self.assertIn(node.attr, own_methods() | own_values() | OWN_METHODS, (name, node.lineno))

    def test_values(self):
        for name, node in nodes(ast.Constant):
            self.assertTrue(node.value is None or isinstance(node.value, (int, str)), (name, node.lineno))
            if isinstance(node.value, str):
                self.assertNotIn("%", node.value, (name, node.lineno))
        for name, node in nodes((ast.Div, ast.MatMult)):
            self.fail(name)
        for name, node in nodes(ast.FormattedValue):
            self.assertIsInstance(node.value, ast.Name, (name, node.lineno))
            self.assertIsNone(node.format_spec, (name, node.lineno))

    def test_is_stands_beside_none_and_truths(self):
        for name, node in nodes(ast.Compare):
            for sign, right in zip(node.ops, node.comparators):
                if isinstance(sign, (ast.Is, ast.IsNot)):
                    self.assertIsInstance(right, ast.Constant, (name, node.lineno))
                    self.assertIn(right.value, (None, True, False), (name, node.lineno))

    def test_walked_at_once(self):
        for name, node, above in with_parents():
            method = node.func.attr if isinstance(node, ast.Call) and isinstance(node.func, ast.Attribute) else None
            if name_of_call(node) in WALKED or method in WALKED_METHODS:
                self.assertTrue(is_walked_by(node, above), (name, node.lineno))

    def test_sets_are_not_kept(self):
        for name, node, above in with_parents():
            if name_of_call(node) in ("set", "frozenset") or isinstance(node, ast.Set):
                right = isinstance(above, (ast.Compare, ast.BinOp)) or name_of_call(above) in ("sorted", "len")
                self.assertTrue(right, (name, node.lineno))

    def test_powers_have_a_written_exponent(self):
        for name, node in nodes(ast.BinOp):
            if isinstance(node.op, ast.Pow):
                self.assertIsInstance(node.right, ast.Constant, (name, node.lineno))
                self.assertIn(node.right.value, range(65), (name, node.lineno))

    def test_keywords_of_pythons_own(self):
        for name, node in nodes(ast.Call):
            called = name_of_call(node) or node.func.attr
            if called in OWN_NAMES or called in OWN_METHODS:
                for one in node.keywords:
                    self.assertIn(one.arg, KEYWORDS.get(called, ()), (name, node.lineno))

    def test_what_stands_at_the_top_is_only_read(self):
        for name, tree in trees():
            tables = top_tables(tree)
            for table in tables.values():
                inner = [node for node in ast.walk(table) if node is not table]
                self.assertFalse([node for node in inner if isinstance(node, (ast.List, ast.Dict))], name)
            for file, node, above in with_parents():
                if file == name and isinstance(node, ast.Name) and isinstance(node.ctx, ast.Load) and node.id in tables:
                    self.assertTrue(only_reads(node, above), (name, node.lineno))


if __name__ == "__main__":
    unittest.main()
