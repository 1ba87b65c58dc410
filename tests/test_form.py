"""The form of the package: what LANGUAGE.md asks for, as far as it can be seen in the text."""

import ast
import builtins
import pathlib
import re
import unittest

ROOT = pathlib.Path(__file__).resolve().parent.parent / "wishreels"
FILES = sorted(ROOT.glob("*.py"))
TREES = {path.stem: ast.parse(path.read_text()) for path in FILES}
NODES = [(name, node) for name, tree in TREES.items() for node in ast.walk(tree)]

BUILTINS = set(
    "len range enumerate zip min max sum abs sorted reversed int str bool list tuple dict set isinstance ord repr any"
    " all divmod iter next map Exception ValueError TypeError KeyError IndexError LookupError ZeroDivisionError"
    " ArithmeticError OverflowError RuntimeError NotImplementedError AttributeError NotImplemented property super"
    " staticmethod classmethod".split())
METHODS = set(
    "append clear copy count endswith extend find get index insert isalnum isalpha isdigit islower isspace isupper"
    " items join keys ljust lower lstrip partition pop remove replace reverse rfind rjust rpartition rsplit rstrip"
    " setdefault split splitlines startswith strip update upper values zfill bit_length title capitalize swapcase"
    " casefold center expandtabs removeprefix removesuffix rindex isascii isdecimal isnumeric istitle isidentifier"
    " isprintable".split())
LIBRARY = {
    "heapq": {"heappush", "heappop", "heapify", "heapreplace", "heappushpop"},
    "math": {"gcd", "lcm", "isqrt", "comb", "perm", "factorial"},
    "itertools": {"product", "combinations", "permutations"},
}
STATEMENTS = (
    ast.FunctionDef, ast.ClassDef, ast.Assign, ast.AugAssign, ast.If, ast.While, ast.For, ast.Return, ast.Break,
    ast.Continue, ast.Pass, ast.Raise, ast.Assert, ast.Delete, ast.Nonlocal, ast.Match, ast.With, ast.Try, ast.Expr,
    ast.ImportFrom)
UNUSED = set("register mro elements open input law version_info with_traceback add_note".split())
UNNAMED = set(
    "attrgetter breakpoint builtins compile copyright credits delattr dir eval exec exit gc getattr globals hasattr"
    " help id importlib license locals methodcaller os quit setattr type vars sys".split())
ATTRIBUTES = set(
    "items keys values pop update append clear extend insert remove reverse setdefault sort args encode decode hex"
    " fromhex format".split())
DOUBLE = set("__init__ __eq__ __repr__ __str__ __len__ __enter__ __exit__ __call__ __iter__".split())


def functions():
    return [(name, node) for name, node in NODES if isinstance(node, ast.FunctionDef)]


def classes():
    return [(name, node) for name, node in NODES if isinstance(node, ast.ClassDef)]


def calls(*names):
    """The calls of these names that stand in the package."""
    for name, node in NODES:
        if isinstance(node, ast.Call) and isinstance(node.func, ast.Name) and node.func.id in names:
            yield name, node


def bound_in(node):
    """The names of the parameters and the local variables of a function."""
    found = [one.arg for one in ast.walk(node) if isinstance(one, ast.arg)]
    return found + [one.id for one in ast.walk(node) if isinstance(one, ast.Name) and isinstance(one.ctx, ast.Store)]


def imported(tree):
    return [alias.name for node in tree.body if isinstance(node, ast.ImportFrom) for alias in node.names]


def top_names(tree):
    found = imported(tree)
    found += [node.name for node in tree.body if isinstance(node, (ast.FunctionDef, ast.ClassDef))]
    return found + [one.id for node in tree.body if isinstance(node, ast.Assign) for one in node.targets]


def sources(tree):
    return [node.module.split(".")[1] for node in tree.body
            if isinstance(node, ast.ImportFrom) and node.module not in LIBRARY]


def strings():
    docs = {id(node.body[0].value) for _, node in NODES
            if isinstance(node, (ast.Module, ast.ClassDef, ast.FunctionDef)) and ast.get_docstring(node)}
    return [(name, node) for name, node in NODES
            if isinstance(node, ast.Constant) and isinstance(node.value, str) and id(node) not in docs]


class FilesTest(unittest.TestCase):
    def test_nothing_but_python_files(self):
        others = [path.name for path in ROOT.iterdir() if path not in FILES and path.name != "__pycache__"]
        self.assertEqual(others, [])
        for path in FILES:
            self.assertRegex(path.name, r"\A[a-z_][a-z0-9_]*\.py\Z")
            self.assertNotIn(path.stem, dir(builtins))

    def test_sizes_and_characters(self):
        for path in FILES:
            text = path.read_text()
            self.assertTrue(all(" " <= sign <= "~" or sign == "\n" for sign in text), path)
            self.assertLess(len(text.splitlines()), 400, path)
            self.assertLessEqual(max(map(len, text.splitlines())), 120, path)
        for name, node in functions():
            self.assertLessEqual(node.end_lineno - node.lineno + 1, 40, (name, node.name))

    def test_strings(self):
        for name, node in NODES:
            if isinstance(node, ast.Constant) and isinstance(node.value, str):
                self.assertNotIn("%", node.value, name)
        for name, node in strings():
            self.assertIsNone(re.search(r"\b(typing|enum|Enum|Flag|ABC)\b|__", node.value), name)


class ModulesTest(unittest.TestCase):
    def test_module_level(self):
        kinds = (ast.ImportFrom, ast.FunctionDef, ast.ClassDef, ast.Assign)
        for name, tree in TREES.items():
            first = tree.body[0]
            self.assertIsInstance(first.value, ast.Constant, name)
            for node in tree.body[1:]:
                self.assertIsInstance(node, kinds, name)
                if isinstance(node, ast.Assign):
                    self.assertEqual(len(node.targets), 1)
                    ast.literal_eval(node.value)
            names = top_names(tree)
            self.assertEqual(len(names), len(set(names)), name)

    def test_imports(self):
        for name, node in NODES:
            self.assertNotIsInstance(node, ast.Import)
            if isinstance(node, ast.ImportFrom):
                self.assertIn(node, TREES[name].body)
                self.assertEqual(node.level, 0)
                for alias in node.names:
                    self.assertIsNone(alias.asname)
                    if node.module in LIBRARY:
                        self.assertIn(alias.name, LIBRARY[node.module])
                    else:
                        there = TREES[node.module.split(".", 1)[1]]
                        self.assertIn(alias.name, set(top_names(there)) - set(imported(there)))

    def test_imports_are_used(self):
        for name, tree in TREES.items():
            used = {node.id for node in ast.walk(tree) if isinstance(node, ast.Name)}
            self.assertEqual([one for one in imported(tree) if one not in used], [], name)

    def test_no_two_files_import_from_each_other(self):
        left = {name: set(sources(tree)) for name, tree in TREES.items()}
        while left:
            ready = [name for name in left if not left[name] & set(left)]
            self.assertTrue(ready, left)
            left = {name: left[name] for name in left if name not in ready}

    def test_init_binds_nothing(self):
        self.assertEqual(top_names(TREES["__init__"]), [])


class NamesTest(unittest.TestCase):
    def test_own_names(self):
        for name, tree in TREES.items():
            barred = set(imported(tree)) | {node.name for node in tree.body if isinstance(node, ast.ClassDef)}
            for node in ast.walk(tree):
                if isinstance(node, (ast.FunctionDef, ast.Lambda)):
                    self.assertEqual(set(bound_in(node)) & (barred | set(dir(builtins))), set(), (name, node.lineno))
            self.assertEqual(set(top_names(tree)) & set(dir(builtins)), set(), name)

    def test_plain_names(self):
        for name, node in NODES:
            for one in [getattr(node, field, None) for field in ("id", "arg", "attr", "name")]:
                if isinstance(one, str):
                    self.assertRegex(one, r"\A(_|_?[A-Za-z][A-Za-z0-9_]*|__[a-z]+__)\Z")
                    self.assertNotIn(one, UNUSED, name)
                    self.assertFalse(one.startswith(("_wall", "_pe_", "_dcw_", "_enum_", "_cm_", "_law_", "f_", "tb_")))
                    if not isinstance(node, ast.Attribute):
                        self.assertNotIn(one, UNNAMED, name)
            if isinstance(node, ast.Name) and node.id == "_":
                self.assertIsInstance(node.ctx, ast.Store, name)

    def test_builtins(self):
        for name, tree in TREES.items():
            for node in tree.body:
                known = set(top_names(tree)) | set(bound_in(node))
                read = {one.id for one in ast.walk(node) if isinstance(one, ast.Name)}
                self.assertEqual(read - known - BUILTINS, set(), name)

    def test_methods_and_attributes(self):
        methods = {one.name for _, node in classes() for one in node.body if isinstance(one, ast.FunctionDef)}
        stored = {node.attr for _, node in NODES if isinstance(node, ast.Attribute) and isinstance(node.ctx, ast.Store)}
        self.assertEqual(stored & ATTRIBUTES, set())
        self.assertEqual(stored & methods, set())
        called = {id(node.func) for _, node in NODES if isinstance(node, ast.Call)}
        for name, node in NODES:
            if isinstance(node, ast.Attribute):
                right = methods | METHODS if id(node) in called else stored
                self.assertIn(node.attr, right, (name, node.lineno))

    def test_methods_of_classes(self):
        for name, node in classes():
            names = [one.name for one in node.body if isinstance(one, ast.FunctionDef)]
            self.assertEqual(len(names), len(set(names)))
            for one in names:
                self.assertTrue(not one.startswith("__") or one in DOUBLE, (name, one))
            self.assertIn(node, TREES[name].body)


class StatementsTest(unittest.TestCase):
    def test_kinds(self):
        for name, node in NODES:
            if isinstance(node, ast.stmt):
                self.assertIsInstance(node, STATEMENTS, (name, node.lineno))
            self.assertNotIsInstance(node, (ast.Await, ast.YieldFrom, ast.GeneratorExp, ast.Set, ast.SetComp), name)
            self.assertNotIsInstance(node, (ast.Div, ast.MatMult, ast.Pow), name)
            if isinstance(node, ast.Constant):
                self.assertNotIsInstance(node.value, (float, complex, bytes), name)
            if isinstance(node, (ast.FunctionDef, ast.ClassDef)):
                self.assertEqual(node.decorator_list, [], name)
            if isinstance(node, ast.ExceptHandler):
                self.assertIsNotNone(node.type)
            if isinstance(node, ast.Raise):
                self.assertIsInstance(node.exc, ast.Call, name)

    def test_is(self):
        for name, node in NODES:
            if isinstance(node, ast.Compare):
                for sign, other in zip(node.ops, node.comparators):
                    if isinstance(sign, (ast.Is, ast.IsNot)):
                        self.assertIsInstance(other, ast.Constant, (name, node.lineno))

    def test_sets_are_used_on_the_spot(self):
        inside = [argument for _, node in calls("len", "sorted") for argument in node.args]
        for name, node in calls("set", "frozenset"):
            self.assertIn(node, inside, (name, node.lineno))

    def test_isinstance(self):
        kinds = {"int", "str", "bool", "bytes", "list", "tuple", "dict"} | {node.name for _, node in classes()}
        for name, node in calls("isinstance"):
            told = node.args[1].elts if isinstance(node.args[1], ast.Tuple) else [node.args[1]]
            self.assertTrue(all(one.id in kinds for one in told), (name, node.lineno))

    def test_no_lists_are_sorted_in_place(self):
        self.assertEqual([name for name, node in NODES if isinstance(node, ast.Attribute) and node.attr == "sort"], [])

    def test_what_is_iterated_over_on_the_spot(self):
        lazy = ("zip", "enumerate", "reversed", "range", "map")
        inside = [node.iter for _, node in NODES if isinstance(node, (ast.For, ast.comprehension))]
        inside += [one for _, node in calls("list", "tuple", "dict", "sorted", "enumerate") for one in node.args]
        for name, node in calls(*lazy):
            self.assertIn(node, inside, (name, node.lineno))

    def test_exits_do_but_assign(self):
        for name, node in functions():
            if node.name == "__exit__":
                for one in node.body:
                    self.assertIsInstance(one, ast.Assign, name)
                    self.assertIsInstance(one.value, (ast.Attribute, ast.Name, ast.Constant), name)

    def test_loops_do_not_change_what_they_iterate_over(self):
        changes = {"append", "clear", "extend", "insert", "pop", "remove", "reverse", "setdefault", "update"}
        for name, node in NODES:
            if isinstance(node, ast.For):
                roots = {ast.unparse(one) for one in ast.walk(node.iter) if isinstance(one, (ast.Name, ast.Attribute))}
                for one in [part for row in node.body for part in ast.walk(row)]:
                    if isinstance(one, ast.Call) and isinstance(one.func, ast.Attribute) and one.func.attr in changes:
                        self.assertNotIn(ast.unparse(one.func.value), roots, (name, node.lineno))
                    if isinstance(one, ast.Subscript) and isinstance(one.ctx, ast.Store):
                        self.assertNotIn(ast.unparse(one.value), roots, (name, node.lineno))


if __name__ == "__main__":
    unittest.main()
