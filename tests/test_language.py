"""The rules of the language that can be seen by a look at the syntax trees of the package."""

import ast
import os
import re
import unittest

TOP = os.path.dirname(os.path.dirname(os.path.abspath(__file__)))
PACKAGE = os.path.join(TOP, "entablature")

BUILTINS = set("""super len range enumerate zip min max sum abs sorted reversed int str bool list tuple dict set frozenset
isinstance ord repr any all divmod Exception ValueError TypeError KeyError IndexError LookupError
ZeroDivisionError ArithmeticError OverflowError RuntimeError NotImplementedError AttributeError iter next type
map""".split())

METHODS = set("""append clear copy count endswith extend find get index insert isalnum isalpha isdigit islower isspace
isupper items join keys ljust lower lstrip partition pop remove replace reverse rfind rjust rpartition rsplit rstrip
setdefault split splitlines startswith strip update upper values zfill bit_length isascii isprintable add
discard""".split())

BAD_ATTRIBUTES = set("""items keys values pop update append clear extend insert remove reverse setdefault sort args
encode decode hex fromhex format format_map mro elements open input law version_info with_traceback add_note
register""".split())

BARRED = set("""super attrgetter breakpoint builtins compile copyright credits delattr dir eval exec exit gc getattr globals
hasattr help id importlib license locals methodcaller os quit setattr super vars sys typing enum object format hash
next map filter round print input open bytes chr callable complex memoryview property staticmethod classmethod slice
vars iter pow bin hex oct""".split()) | BUILTINS - {"type"}

STATEMENTS = (
    ast.Assign, ast.AugAssign, ast.If, ast.While, ast.For, ast.Return, ast.Break, ast.Continue, ast.Pass, ast.Raise,
    ast.Assert, ast.Delete, ast.Try, ast.Expr, ast.FunctionDef, ast.ClassDef, ast.ImportFrom,
)
BAD_EXPRESSIONS = (
    ast.Await, ast.Yield, ast.YieldFrom, ast.NamedExpr, ast.GeneratorExp, ast.Div, ast.MatMult, ast.Pow,
)


def files():
    found = []
    for name in sorted(os.listdir(PACKAGE)):
        if name != "__pycache__":
            found.append(name)
    return found


def read(name):
    with open(os.path.join(PACKAGE, name), encoding="utf-8") as source:
        return source.read()


TREES = {name: ast.parse(read(name)) for name in files()}


def module_of(name):
    return "entablature." + name[:-3] if name != "__init__.py" else "entablature"


def defined(tree):
    found = []
    for node in tree.body:
        if isinstance(node, (ast.FunctionDef, ast.ClassDef)):
            found.append(node.name)
        if isinstance(node, ast.Assign):
            found.append(node.targets[0].id)
    return found


def imports(tree):
    return [node for node in tree.body if isinstance(node, ast.ImportFrom)]


def is_library(node):
    """Whether a line imports what the language lets a file take from the library."""
    names = {alias.name for alias in node.names}
    return isinstance(node, ast.ImportFrom) and node.module == "heapq" and names <= {"heappush", "heappop", "heapify"}


def docstrings(tree):
    found = set()
    for node in ast.walk(tree):
        if isinstance(node, (ast.Module, ast.FunctionDef, ast.ClassDef)) and node.body:
            first = node.body[0]
            if isinstance(first, ast.Expr) and isinstance(first.value, ast.Constant):
                found.add(id(first.value))
    return found


def local_names(function):
    found = set()
    for node in ast.walk(function):
        if isinstance(node, ast.arg):
            found.add(node.arg)
        if isinstance(node, ast.Name) and isinstance(node.ctx, (ast.Store, ast.Del)):
            found.add(node.id)
        if isinstance(node, ast.FunctionDef) and node is not function:
            found.add(node.name)
        if isinstance(node, ast.ExceptHandler) and node.name:
            found.add(node.name)
    return found


def own_methods():
    found = set()
    for tree in TREES.values():
        for node in ast.walk(tree):
            if isinstance(node, ast.ClassDef):
                found.update([item.name for item in node.body if isinstance(item, ast.FunctionDef)])
    return found


class Language(unittest.TestCase):

    def test_files(self):
        for name in files():
            self.assertRegex(name, r"^[a-z_][a-z0-9_]*\.py$")
            text = read(name)
            lines = text.split("\n")
            self.assertLess(len(lines), 400, name)
            for number, line in enumerate(lines):
                self.assertLessEqual(len(line), 120, (name, number + 1))
                self.assertRegex(line, r"^[ -~]*$", (name, number + 1))
            self.assertNotRegex(text, r"_wall|dataclass|overload|contextmanager|import typing", name)

    def test_sizes_of_functions(self):
        for name, tree in TREES.items():
            for node in ast.walk(tree):
                if isinstance(node, ast.FunctionDef):
                    self.assertLessEqual(node.end_lineno - node.lineno + 1, 40, (name, node.name))
                    self.assertEqual(node.decorator_list, [], (name, node.name))
                    self.assertIsNotNone(ast.get_docstring(node) or node.name == "__init__", (name, node.name))

    def test_module_level(self):
        for name, tree in TREES.items():
            names = []
            for at, node in enumerate(tree.body):
                if isinstance(node, ast.Expr):
                    self.assertEqual(at, 0, name)
                    continue
                self.assertIsInstance(node, (ast.ImportFrom, ast.FunctionDef, ast.ClassDef, ast.Assign), name)
                if isinstance(node, ast.Assign):
                    self.assertEqual(len(node.targets), 1)
                    self.assertIsInstance(node.targets[0], ast.Name)
            names.extend(defined(tree))
            for node in imports(tree):
                names.extend([alias.name for alias in node.names])
            self.assertEqual(len(names), len(set(names)), name)
            self.assertEqual(sorted(set(names) & BARRED), [], name)

    def test_imports(self):
        for name, tree in TREES.items():
            nodes = [node for node in ast.walk(tree) if isinstance(node, (ast.Import, ast.ImportFrom))]
            self.assertEqual(nodes, imports(tree), name)
            nodes = [node for node in nodes if not is_library(node)]
            behind = False
            for node in tree.body:
                if isinstance(node, ast.ImportFrom):
                    self.assertFalse(behind, name)
                elif not isinstance(node, ast.Expr):
                    behind = True
            for node in nodes:
                self.assertEqual(node.level, 0)
                self.assertTrue(node.module.startswith("entablature."), (name, node.module))
                target = node.module[len("entablature."):] + ".py"
                for alias in node.names:
                    self.assertIsNone(alias.asname)
                    self.assertIn(alias.name, defined(TREES[target]), (name, node.module))

    def test_no_circles_of_imports(self):
        ways = {module_of(name): [node.module for node in imports(tree) if not is_library(node)]
                for name, tree in TREES.items()}
        done = set()

        def go(module, path):
            self.assertNotIn(module, path)
            if module not in done:
                for other in ways[module]:
                    go(other, path + [module])
                done.add(module)

        for module in ways:
            go(module, [])

    def test_imported_names_are_used(self):
        for name, tree in TREES.items():
            names = {node.id for node in ast.walk(tree) if isinstance(node, ast.Name)}
            for node in imports(tree):
                for alias in node.names:
                    self.assertIn(alias.name, names, name)

    def test_statements_and_expressions(self):
        for name, tree in TREES.items():
            for node in ast.walk(tree):
                if isinstance(node, ast.stmt):
                    self.assertIsInstance(node, STATEMENTS, (name, node.lineno))
                self.assertNotIsInstance(node, BAD_EXPRESSIONS, (name, getattr(node, "lineno", 0)))
                if isinstance(node, ast.Constant):
                    self.assertNotIsInstance(node.value, (float, bytes), (name, node.lineno))
                if isinstance(node, ast.AnnAssign) or getattr(node, "annotation", None) is not None:
                    self.fail((name, node.lineno))

    def test_no_percent_in_strings(self):
        for name, tree in TREES.items():
            aside = docstrings(tree)
            for node in ast.walk(tree):
                if isinstance(node, ast.Constant) and isinstance(node.value, str) and id(node) not in aside:
                    self.assertNotIn("%", node.value, (name, node.lineno))
                    self.assertFalse(node.value in ("type", "enum", "typing"), (name, node.lineno))

    def test_is(self):
        for name, tree in TREES.items():
            for node in ast.walk(tree):
                if isinstance(node, ast.Compare):
                    for sign, right in zip(node.ops, node.comparators):
                        if isinstance(sign, (ast.Is, ast.IsNot)):
                            plain = isinstance(right, ast.Constant) and right.value in (None, True, False)
                            left = node.left
                            asked = isinstance(left, ast.Call) and getattr(left.func, "id", "") == "type"
                            self.assertTrue(plain or asked, (name, node.lineno))

    def test_names(self):
        methods = own_methods()
        for name, tree in TREES.items():
            outside = set(defined(tree))
            types = {node.name for node in tree.body if isinstance(node, ast.ClassDef)}
            for node in imports(tree):
                types.update([alias.name for alias in node.names])
            outside |= types
            nested = set()
            for node in ast.walk(tree):
                if isinstance(node, ast.FunctionDef):
                    nested.update([part for part in ast.walk(node) if part is not node])
            for node in ast.walk(tree):
                # What a nested function reads may stand in the function around it, in which it is looked at.
                if not isinstance(node, ast.FunctionDef) or node in nested:
                    continue
                inside = local_names(node)
                self.assertEqual(sorted(inside & types), [], (name, node.name))
                self.assertEqual(sorted(inside & BARRED), [], (name, node.name))
                for part in ast.walk(node):
                    if isinstance(part, ast.Name) and isinstance(part.ctx, ast.Load):
                        self.assertIn(part.id, inside | outside | BUILTINS, (name, node.name))
                    if isinstance(part, ast.Call) and isinstance(part.func, ast.Attribute):
                        self.assertIn(part.func.attr, methods | METHODS, (name, part.lineno))

    def test_attributes(self):
        assigned = set()
        for tree in TREES.values():
            for node in ast.walk(tree):
                if isinstance(node, ast.Attribute) and isinstance(node.ctx, ast.Store):
                    assigned.add(node.attr)
        self.assertEqual(sorted(assigned & BAD_ATTRIBUTES), [])
        methods = own_methods()
        for name, tree in TREES.items():
            for node in ast.walk(tree):
                if isinstance(node, ast.Attribute) and isinstance(node.ctx, ast.Load):
                    self.assertIn(node.attr, assigned | methods | METHODS, (name, node.lineno))

    def test_no_name_is_a_method_and_an_attribute_of_one_class(self):
        for name, tree in TREES.items():
            for node in tree.body:
                if not isinstance(node, ast.ClassDef):
                    continue
                methods = [item.name for item in node.body if isinstance(item, ast.FunctionDef)]
                self.assertEqual(len(methods), len(set(methods)), (name, node.name))
                for part in ast.walk(node):
                    if isinstance(part, ast.Attribute) and isinstance(part.ctx, ast.Store):
                        self.assertNotIn(part.attr, methods, (name, node.name))
                for item in methods:
                    self.assertTrue(not item.startswith("__") or item == "__init__", (name, item))

    def test_sets(self):
        for name, tree in TREES.items():
            allowed = set()
            for node in ast.walk(tree):
                if isinstance(node, ast.Call) and getattr(node.func, "id", "") in ("sorted", "len"):
                    allowed.update([id(arg) for arg in node.args])
                if isinstance(node, ast.Compare):
                    allowed.update([id(right) for right in node.comparators])
            for node in ast.walk(tree):
                if isinstance(node, (ast.Set, ast.SetComp)) or getattr(getattr(node, "func", None), "id", "") == "set":
                    self.assertIn(id(node), allowed, (name, node.lineno))

    def test_calls_of_builtins_have_no_other_keywords(self):
        allowed = {"sorted": {"key", "reverse"}, "min": {"key", "default"}, "max": {"key", "default"}}
        for name, tree in TREES.items():
            for node in ast.walk(tree):
                if isinstance(node, ast.Call) and getattr(node.func, "id", "") in BUILTINS:
                    told = {keyword.arg for keyword in node.keywords}
                    self.assertEqual(told - allowed.get(node.func.id, set()), set(), (name, node.lineno))

    def test_views_are_iterated_at_once(self):
        for name, tree in TREES.items():
            allowed = set()
            for node in ast.walk(tree):
                if isinstance(node, (ast.For, ast.comprehension)):
                    allowed.add(id(node.iter))
                if isinstance(node, ast.Call):
                    if getattr(node.func, "id", "") in ("list", "tuple", "dict", "sorted", "enumerate", "zip"):
                        allowed.update([id(arg) for arg in node.args])
            for node in ast.walk(tree):
                if isinstance(node, ast.Call):
                    word = getattr(node.func, "id", "") or getattr(node.func, "attr", "")
                    if word in ("zip", "enumerate", "reversed", "range", "items", "keys", "values"):
                        self.assertIn(id(node), allowed, (name, node.lineno))

    def test_loops_do_not_modify_what_they_iterate_over(self):
        changing = {"append", "clear", "extend", "insert", "pop", "remove", "reverse", "setdefault", "update"}
        for name, tree in TREES.items():
            for loop in ast.walk(tree):
                if not isinstance(loop, ast.For):
                    continue
                # A call of len tells a number once, ahead of the loop.
                aside = [part for call in ast.walk(loop.iter) if isinstance(call, ast.Call) and
                         getattr(call.func, "id", "") == "len" for part in ast.walk(call)]
                over = [node for node in ast.walk(loop.iter) if node not in aside]
                names = {node.id for node in over if isinstance(node, ast.Name)} - {"self"}
                names |= {"." + node.attr for node in over if isinstance(node, ast.Attribute)}
                for node in [part for row in loop.body for part in ast.walk(row)]:
                    held = None
                    if isinstance(node, ast.Call) and getattr(node.func, "attr", "") in changing:
                        held = node.func.value
                    if isinstance(node, ast.Subscript) and isinstance(node.ctx, (ast.Store, ast.Del)):
                        held = node.value
                    told = "." + held.attr if isinstance(held, ast.Attribute) else getattr(held, "id", None)
                    self.assertNotIn(told, names, (name, node.lineno if held is not None else 0))


if __name__ == "__main__":
    unittest.main()
