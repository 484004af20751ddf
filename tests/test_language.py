"""The files of the package keep to the subset of Python in which it is written, as far as a plain look can tell.

This is narrower than the subset in places: what the package does not need is not let in here.
"""

import ast
import builtins
import os
import re
import unittest

ROOT = os.path.dirname(os.path.dirname(os.path.abspath(__file__)))
FOLDER = os.path.join(ROOT, "patternways")
ERRORS = {"Exception", "ValueError", "TypeError", "KeyError", "IndexError", "LookupError"}
CALLED = {"len", "range", "enumerate", "zip", "min", "max", "sum", "abs", "sorted", "reversed", "int", "str", "bool",
          "list", "tuple", "dict", "isinstance", "ord", "any", "all", "super"}
NAMED = CALLED | ERRORS | {"bool", "int", "str", "list", "tuple", "dict", "property"}
METHODS = set("""append clear copy count endswith extend find get index insert isalnum isalpha isdigit islower isspace
    isupper items join keys ljust lower lstrip partition pop remove replace reverse rfind rjust rpartition rsplit rstrip
    setdefault split splitlines startswith strip update upper values zfill bit_length""".split())
BARRED = {"register", "mro", "elements", "open", "input", "law", "version_info", "with_traceback", "add_note",
          "attrgetter", "breakpoint", "builtins", "compile", "copyright", "credits", "delattr", "dir", "eval", "exec",
          "exit", "gc", "getattr", "globals", "hasattr", "help", "id", "importlib", "license", "locals", "methodcaller",
          "os", "quit", "setattr", "type", "vars", "sys"}
PLAIN = re.compile(r"__[a-z]+__|_|_?[A-Za-z][A-Za-z0-9_]*")
PLAIN_CLASS = re.compile(r"[A-Za-z][A-Za-z0-9_]*")
KEPT_APART = re.compile(r"_(wall|pe_|dcw_|enum_|cm_|twin_re_|lay_|law_|stub_|sre|WallAttr).*|"
                        r"_(cold|tuplegetter|outside|record|written_out|member_names)[0-9_]*")
NO_ATTRIBUTES = {"items", "keys", "values", "pop", "update", "append", "clear", "extend", "insert", "remove", "reverse",
                 "setdefault", "sort", "args", "encode", "decode", "hex", "fromhex", "format"}
NO_WORDS = re.compile(r"\b(type|typing|typing_extensions|enum|Enum|IntEnum|StrEnum|Flag|IntFlag|Generic|Protocol|ABC|"
                      r"ABCMeta|namedtuple|NamedTuple|TypedDict|TYPE_CHECKING|abstractmethod)\b|dataclass|overload|"
                      r"contextmanager|_wall")
STATEMENTS = (ast.FunctionDef, ast.ClassDef, ast.Return, ast.Assign, ast.AugAssign, ast.For, ast.While, ast.If,
              ast.Raise, ast.Expr, ast.Pass, ast.Break, ast.Continue, ast.ImportFrom, ast.Try)
CHANGING = {"append", "clear", "extend", "insert", "pop", "remove", "reverse", "setdefault", "update"}


def files():
    """The names of the files of the package, and their texts."""
    return {name: open(os.path.join(FOLDER, name), encoding="utf-8").read()
            for name in sorted(os.listdir(FOLDER)) if name != "__pycache__"}


TEXTS = files()
TREES = {name: ast.parse(text) for name, text in TEXTS.items()}


def nodes(kind):
    """All nodes of a kind, each with the name of its file."""
    return [(name, node) for name, tree in TREES.items() for node in ast.walk(tree) if isinstance(node, kind)]


def defined(tree):
    """The names that a file defines at its top level."""
    found = []
    for node in tree.body:
        if isinstance(node, (ast.FunctionDef, ast.ClassDef)):
            found.append(node.name)
        elif isinstance(node, ast.Assign):
            found.extend(target.id for target in node.targets)
    return found


def imported(tree):
    """The names that a file imports, each with the file from which it does."""
    return [(alias.name, node.module.split(".")[-1] + ".py") for node in tree.body if isinstance(node, ast.ImportFrom)
            for alias in node.names]


def bound(node):
    """The names that are bound below a node: parameters, variables, functions."""
    found = []
    for part in ast.walk(node):
        if isinstance(part, ast.arg):
            found.append(part.arg)
        elif isinstance(part, ast.Name) and isinstance(part.ctx, ast.Store):
            found.append(part.id)
        elif isinstance(part, (ast.FunctionDef, ast.ClassDef)):
            found.append(part.name)
    return found


def written(tree):
    """All names that stand in a file: those that it binds and imports, its attributes, and its keywords."""
    found = bound(tree) + [name for name, _ in imported(tree)]
    found.extend(node.attr for node in ast.walk(tree) if isinstance(node, ast.Attribute))
    return found + [node.arg for node in ast.walk(tree) if isinstance(node, ast.keyword) and node.arg]


def misnamed(tree):
    """The names of a file that are not plain ones, and the classes whose names do not begin with a letter."""
    classes = [node.name for node in ast.walk(tree) if isinstance(node, ast.ClassDef)]
    plain = [name for name in written(tree) if not PLAIN.fullmatch(name) or KEPT_APART.fullmatch(name)]
    return sorted({*plain, *[name for name in classes if not PLAIN_CLASS.fullmatch(name)]})


class Language(unittest.TestCase):
    def fail_at(self, name, node, why):
        self.fail(f"{name}:{getattr(node, 'lineno', 0)}: {why}")

    def test_files(self):
        for name, text in TEXTS.items():
            with self.subTest(name=name):
                self.assertRegex(name, r"^(__init__|[a-z][a-z0-9_]*)\.py$")
                self.assertFalse(hasattr(builtins, name[:-3]) and name != "__init__.py")
                self.assertFalse(name.startswith(("test", "law_")) or name in ("site.py", "conftest.py"))
                lines = text.split("\n")
                self.assertEqual(lines.pop(), "")
                self.assertLessEqual(len(lines), 399)
                for number, line in enumerate(lines):
                    self.assertLessEqual(len(line), 120, f"{name}:{number + 1}")
                    self.assertTrue(all(" " <= sign <= "~" for sign in line), f"{name}:{number + 1}")

    def test_imports_name_the_files_that_define(self):
        graph = {name: set() for name in TREES}
        for name, tree in TREES.items():
            names = [found for found, _ in imported(tree)] + defined(tree)
            self.assertEqual(len(names), len(set(names)), f"{name} binds a name twice")
            used = {node.id for node in ast.walk(tree) if isinstance(node, ast.Name)}
            for found, source in imported(tree):
                graph[name].add(source)
                self.assertIn(found, defined(TREES[source]), name)
                self.assertIn(found, used, f"{name} does not use {found}")
        for node in [node for _, node in nodes(ast.ImportFrom)]:
            self.assertTrue(node.level == 0 and node.module.startswith("patternways."))
            self.assertFalse(any(alias.asname for alias in node.names))
        self.assertEqual(nodes(ast.Import), [])
        while graph:
            ready = [name for name in graph if not graph[name] & set(graph)]
            self.assertNotEqual(ready, [], "files import from each other")
            for name in ready:
                del graph[name]

    def test_statements(self):
        for name, node in nodes(ast.stmt):
            if not isinstance(node, STATEMENTS):
                self.fail_at(name, node, "statement")
        for name, tree in TREES.items():
            for node in tree.body:
                plain = isinstance(node, (ast.FunctionDef, ast.ClassDef, ast.ImportFrom)) or (
                    isinstance(node, ast.Expr) and isinstance(node.value, ast.Constant)) or (
                    isinstance(node, ast.Assign) and isinstance(node.value, ast.Constant))
                if not plain:
                    self.fail_at(name, node, "module level")

    def test_tries(self):
        # what is left of a try by any error is put right by plain assignments
        for name, node in nodes(ast.Try):
            if node.handlers or node.orelse:
                self.fail_at(name, node, "handler")
            for line in [part for step in node.finalbody for part in ([*step.body, *step.orelse, step.test] if isinstance(
                    step, ast.If) else [step])]:
                plain = isinstance(line, ast.Assign) and isinstance(line.value, (ast.Name, ast.Attribute)) or isinstance(
                    line, ast.Compare) and ast.unparse(line).endswith(" is None")
                if not plain:
                    self.fail_at(name, line, "finally")

    def test_functions(self):
        for name, node in nodes(ast.FunctionDef):
            if node.end_lineno - node.lineno + 1 > 40 or node.returns:
                self.fail_at(name, node, "function")
            if [ast.unparse(part) for part in node.decorator_list] not in ([], ["property"]):
                self.fail_at(name, node, "decorator")
            if node.decorator_list and (len(node.args.args) != 1 or [
                    part for part in ast.walk(node) if isinstance(part, (ast.Assign, ast.AugAssign))]):
                self.fail_at(name, node, "property")
            if node.args.vararg or node.args.kwarg or node.args.kwonlyargs or node.args.posonlyargs:
                self.fail_at(name, node, "parameters")
            if any(not isinstance(value, ast.Constant) for value in node.args.defaults):
                self.fail_at(name, node, "default")
            if node.name.startswith("__") and node.name not in ("__init__", "__eq__", "__len__"):
                self.fail_at(name, node, "double underscores")
            if not node.name.startswith("_") and ast.get_docstring(node) is None:
                self.fail_at(name, node, "no docstring")

    def test_kinds_of_expressions(self):
        barred = (ast.GeneratorExp, ast.Yield, ast.YieldFrom, ast.Await, ast.Set, ast.SetComp, ast.NamedExpr, ast.Div,
                  ast.Pow, ast.Mod, ast.MatMult)
        for name, node in nodes(barred):
            self.fail_at(name, node, type(node).__name__)
        for name, node in nodes(ast.Starred):
            if not isinstance(node.value, (ast.Name, ast.Attribute, ast.Subscript)):
                self.fail_at(name, node, "star over what is no name")
        for name, node in nodes(ast.FunctionDef):
            if node.name == "__init__" and any(isinstance(part, (ast.Return, ast.Lambda)) for part in ast.walk(node)):
                self.fail_at(name, node, "something is returned in __init__")
        for name, node in nodes(ast.Compare):
            for sign, other in zip(node.ops, node.comparators):
                if isinstance(sign, (ast.Is, ast.IsNot)) and not (
                        isinstance(other, ast.Constant) and other.value in (None, True, False)):
                    self.fail_at(name, node, "is")
        for name, node in nodes(ast.Constant):
            if isinstance(node.value, (float, complex, bytes)) or isinstance(node.value, str) and (
                    "%" in node.value or node.value.endswith(("._", ".__"))):
                self.fail_at(name, node, "constant")

    def test_calls(self):
        own = {node.name for _, node in nodes((ast.FunctionDef, ast.ClassDef))}
        for name, node in nodes(ast.Call):
            if isinstance(node.func, ast.Attribute):
                self.assertIn(node.func.attr, METHODS | own, f"{name}:{node.lineno}")
            elif isinstance(node.func, ast.Name) and hasattr(builtins, node.func.id):
                self.assertIn(node.func.id, CALLED | ERRORS, f"{name}:{node.lineno}")
                for keyword in node.keywords:
                    self.assertIn((node.func.id, keyword.arg), [("max", "default"), ("min", "default"),
                                                                ("sorted", "reverse")], f"{name}:{node.lineno}")
            elif not isinstance(node.func, ast.Name):
                self.fail_at(name, node, "call")
            if any(isinstance(value, ast.Starred) for value in node.args):
                self.fail_at(name, node, "star in a call")

    def test_names(self):
        for name, tree in TREES.items():
            top = defined(tree) + [found for found, _ in imported(tree)]
            known = set(top) | set(bound(tree)) | NAMED
            classes = [node.name for node in tree.body if isinstance(node, ast.ClassDef)]
            for found in bound(tree):
                self.assertFalse(hasattr(builtins, found) and not found.startswith("__"), f"{name}: {found}")
                self.assertNotIn(found, BARRED, name)
            for node in ast.walk(tree):
                if isinstance(node, (ast.FunctionDef, ast.Lambda)):
                    inside = set(bound(node)) - {getattr(node, "name", None)}
                    self.assertFalse(inside & (set(classes) | {found for found, _ in imported(tree)}),
                                     f"{name}:{node.lineno}")
                if isinstance(node, ast.Name) and isinstance(node.ctx, ast.Load):
                    self.assertIn(node.id, known, f"{name}:{node.lineno}")
                    self.assertNotEqual(node.id, "_", f"{name}:{node.lineno}")
                if isinstance(node, ast.Attribute) and isinstance(node.ctx, ast.Store):
                    self.assertNotIn(node.attr, NO_ATTRIBUTES | {"open", "input", "mro"}, f"{name}:{node.lineno}")

    def test_plain_names(self):
        for name, tree in TREES.items():
            self.assertEqual(misnamed(tree), [], name)

    def test_names_that_are_not_plain_are_seen(self):
        for line, found in (("class _Spelling: pass", ["_Spelling"]), ("class _: pass", ["_"]),
                            ("class __Odd__: pass", ["__Odd__"]), ("class _1: pass", ["_1"]),
                            ("def made():\n    class _Inner: pass", ["_Inner"]), ("class Spelling: pass", []),
                            ("class Low_2:\n    def _low(self): self._rows = 3", []), ("def _low(_n): return _n", []),
                            ("__low = 1", ["__low"]), ("def low(self): self.__n = 1", ["__n"]), ("_2 = 1", ["_2"]),
                            ("_cold_1 = low(_pe_x=1)", ["_cold_1", "_pe_x"]), ("_colder = low(_n=1)", [])):
            with self.subTest(line=line):
                self.assertEqual(misnamed(ast.parse(line)), found)

    def test_words(self):
        for name, text in TEXTS.items():
            code = re.sub(r'"""[^"]*"""|#.*', "", text)
            found = NO_WORDS.search(code)
            self.assertIsNone(found, f"{name}: {found}")

    def test_loops_do_not_change_what_they_go_over(self):
        for name, node in nodes(ast.For):
            over = {part.id for part in ast.walk(node.iter) if isinstance(part, ast.Name)}
            for part in [part for line in node.body for part in ast.walk(line)]:
                touched = None
                if isinstance(part, ast.Subscript) and isinstance(part.ctx, ast.Store):
                    touched = part.value
                elif isinstance(part, ast.Call) and isinstance(part.func, ast.Attribute) and part.func.attr in CHANGING:
                    touched = part.func.value
                if isinstance(touched, ast.Name) and touched.id in over:
                    self.fail_at(name, part, "changes what the loop goes over")

    def test_classes(self):
        for name, node in nodes(ast.ClassDef):
            methods = [part.name for part in node.body if isinstance(part, ast.FunctionDef)]
            self.assertEqual(len(methods), len(set(methods)), f"{name}: {node.name}")
            stored = {part.attr for part in ast.walk(node) if isinstance(part, ast.Attribute)
                      and isinstance(part.ctx, ast.Store)}
            self.assertFalse(stored & set(methods), f"{name}: {node.name}")
            self.assertIsNotNone(ast.get_docstring(node), f"{name}: {node.name}")
            for part in node.body:
                if isinstance(part, ast.FunctionDef) and part.name == "__eq__":
                    body = ast.unparse(part.body[0]).replace("(self", "self").replace(")", "").replace("(", " ")
                    self.assertRegex(body, rf"^return isinstance other, {node.name}( and self\.(\w+) == other\.\2)+$",
                                     name)


if __name__ == "__main__":
    unittest.main()
