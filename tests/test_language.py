"""The files of the package keep to the small subset of Python that they are written in.

What can be told from the tree of a file is tested here; the rest is read.
"""

import ast
import builtins
import pathlib
import re
import unittest

FOLDER = pathlib.Path(__file__).resolve().parent.parent / "keptends"
BUILTINS = {
    "len", "range", "enumerate", "zip", "min", "max", "sum", "abs", "sorted", "reversed", "int", "str", "bool", "list",
    "tuple", "dict", "set", "isinstance", "ord", "repr", "any", "all", "divmod", "iter", "next", "map", "property",
    "staticmethod", "classmethod", "ValueError", "TypeError", "KeyError"}
METHODS = {
    "append", "clear", "copy", "count", "endswith", "extend", "find", "get", "index", "insert", "isalnum", "isalpha",
    "isdigit", "islower", "isspace", "isupper", "items", "join", "keys", "ljust", "lower", "lstrip", "partition", "pop",
    "remove", "replace", "reverse", "rfind", "rjust", "rpartition", "rsplit", "rstrip", "setdefault", "split", "splitlines",
    "startswith", "strip", "update", "upper", "values", "zfill", "bit_length"}
SPECIAL = {
    "__init__", "__eq__", "__repr__", "__str__", "__len__", "__call__", "__iter__", "__le__", "__add__", "__sub__", "__mod__",
    "__and__", "__or__", "__contains__", "__getitem__", "__iadd__", "__enter__", "__exit__"}
BARRED = {
    "register", "mro", "elements", "open", "input", "law", "version_info", "with_traceback", "add_note", "attrgetter",
    "breakpoint", "compile", "copyright", "delattr", "dir", "eval", "exec", "exit", "gc", "getattr", "globals", "hasattr",
    "help", "id", "importlib", "license", "locals", "methodcaller", "os", "quit", "setattr", "super", "type", "vars", "sys"}
BARRED_WORDS = re.compile(
    r"\b(type|typing|typing_extensions|enum|Enum|Generic|Protocol|ABC|ABCMeta|namedtuple|NamedTuple|abstractmethod|Meta)\b"
    r"|dataclass|overload|contextmanager|metaclass=|\(type\)")
CHANGING = ("append", "extend", "pop", "insert", "update", "clear")
STATEMENTS = (
    ast.Assign, ast.If, ast.While, ast.For, ast.Return, ast.Break, ast.Continue, ast.Pass, ast.Raise, ast.Assert, ast.Try,
    ast.Expr, ast.FunctionDef, ast.ClassDef, ast.ImportFrom)


def files():
    """Pairs of the path and the text of each file of the package."""
    return [(path, path.read_bytes().decode("ascii")) for path in sorted(FOLDER.glob("*.py"))]


def trees():
    """Triples of the name of a module, its tree and all nodes within it."""
    for path, text in files():
        tree = ast.parse(text)
        yield path.stem, tree, list(ast.walk(tree))


def defined_in(tree):
    """The names that a file defines at module level."""
    names = [node.name for node in tree.body if isinstance(node, (ast.FunctionDef, ast.ClassDef))]
    return names + [node.targets[0].id for node in tree.body if isinstance(node, ast.Assign)]


def names_alike(function):
    """Pairs of names one of which is assigned the other, or a choice that has it, in a function."""
    pairs = []
    for node in ast.walk(function):
        if isinstance(node, ast.Assign) and isinstance(node.targets[0], ast.Name):
            values = [node.value]
            if isinstance(node.value, ast.IfExp):
                values = [node.value.body, node.value.orelse]
            if isinstance(node.value, ast.BoolOp):
                values = node.value.values
            pairs.extend((node.targets[0].id, value.id) for value in values if isinstance(value, ast.Name))
    return pairs


class Language(unittest.TestCase):
    def test_files(self):
        found = [path.name for path in FOLDER.iterdir() if path.name != "__pycache__"]
        self.assertIn("__init__.py", found)
        for name in found:
            self.assertRegex(name, r"^([a-z][a-z0-9_]*|__init__)\.py$")

    def test_sizes_and_characters(self):
        for path, text in files():
            self.assertRegex(text, r"\A[ -~\n]*\Z", path)
            lines = text.split("\n")
            self.assertLessEqual(len(lines), 399, path)
            for line in lines:
                self.assertLessEqual(len(line), 120, (path, line))
                self.assertEqual(line, line.rstrip(), (path, line))

    def test_functions_have_at_most_forty_lines(self):
        for name, _, nodes in trees():
            for node in nodes:
                if isinstance(node, ast.FunctionDef):
                    self.assertLessEqual(node.end_lineno - node.lineno + 1, 40, (name, node.name))

    def test_imports(self):
        modules = {name: tree for name, tree, _ in trees()}
        for name, tree, nodes in trees():
            for node in nodes:
                self.assertNotIsInstance(node, ast.Import, name)
                if isinstance(node, ast.ImportFrom):
                    self.assertIn(node, tree.body)
                    self.assertRegex(node.module, r"^keptends\.[a-z]+$")
                    for alias in node.names:
                        self.assertIsNone(alias.asname)
                        self.assertIn(alias.name, defined_in(modules[node.module.split(".")[1]]), name)

    def test_imports_are_used(self):
        for name, _, nodes in trees():
            used = {node.id for node in nodes if isinstance(node, ast.Name)}
            for node in nodes:
                if isinstance(node, ast.ImportFrom):
                    self.assertLessEqual({alias.name for alias in node.names}, used, name)

    def test_no_two_files_import_from_each_other(self):
        leads = {name: {node.module.split(".")[1] for node in nodes if isinstance(node, ast.ImportFrom)}
                 for name, _, nodes in trees()}
        done = set()
        while len(done) < len(leads):
            free = {name for name in leads if name not in done and leads[name] <= done}
            self.assertTrue(free, set(leads) - done)
            done |= free

    def test_module_level(self):
        for name, tree, _ in trees():
            for k, node in enumerate(tree.body):
                if isinstance(node, ast.Expr):
                    self.assertEqual(k, 0, name)
                    self.assertIsInstance(node.value.value, str)
                elif isinstance(node, ast.Assign):
                    ast.literal_eval(node.value)
                    self.assertEqual(len(node.targets), 1)
                else:
                    self.assertIsInstance(node, (ast.ImportFrom, ast.FunctionDef, ast.ClassDef), name)
            bound = defined_in(tree) + [alias.name for node in tree.body if isinstance(node, ast.ImportFrom)
                                        for alias in node.names]
            self.assertEqual(len(bound), len(set(bound)), name)

    def test_statements_and_expressions(self):
        # += stands nowhere, so that what an operator calls may stand anywhere.
        for name, _, nodes in trees():
            for node in nodes:
                if isinstance(node, ast.stmt):
                    self.assertIsInstance(node, STATEMENTS, (name, node.lineno))
                self.assertNotIsInstance(node, (
                    ast.Set, ast.SetComp, ast.GeneratorExp, ast.Await, ast.AnnAssign, ast.Div, ast.Pow, ast.MatMult),
                    (name, getattr(node, "lineno", 0)))
                if isinstance(node, ast.Constant):
                    self.assertNotIsInstance(node.value, (float, complex, bytes), name)
                    if isinstance(node.value, str):
                        self.assertNotIn(chr(37), node.value, name)
                if isinstance(node, ast.Compare) and isinstance(node.ops[0], (ast.Is, ast.IsNot)):
                    self.assertIsInstance(node.comparators[0], ast.Constant)

    def test_names(self):
        taken = set(dir(builtins))
        for name, tree, nodes in trees():
            outer = {node.name for node in tree.body if isinstance(node, ast.ClassDef)}
            outer |= {alias.name for node in tree.body if isinstance(node, ast.ImportFrom) for alias in node.names}
            stored = [node.id for node in nodes if isinstance(node, ast.Name) and isinstance(node.ctx, ast.Store)]
            stored += [node.arg for node in nodes if isinstance(node, ast.arg)]
            functions = [node.name for node in nodes if isinstance(node, (ast.FunctionDef, ast.ClassDef))]
            for word in stored + functions:
                self.assertNotIn(word, taken | BARRED, name)
                self.assertNotIn(word, outer if word in stored else (), name)
                self.assertTrue(re.fullmatch(r"_?[A-Za-z][A-Za-z0-9_]*|_", word) or word in SPECIAL, word)

    def test_builtins_methods_and_attributes(self):
        own = {node.name for _, _, nodes in trees() for node in nodes if isinstance(node, ast.FunctionDef)}
        stored = {node.attr for _, _, nodes in trees() for node in nodes
                  if isinstance(node, ast.Attribute) and isinstance(node.ctx, ast.Store)}
        for name, _, nodes in trees():
            for node in nodes:
                if isinstance(node, ast.Name) and node.id in dir(builtins):
                    self.assertIn(node.id, BUILTINS, (name, node.lineno))
                if isinstance(node, ast.Attribute):
                    self.assertTrue(node.attr in METHODS | own | stored | {"setter", "MOST"}, (name, node.attr))
                    self.assertNotIn(node.attr, BARRED)

    def test_sorted_min_and_max_are_not_used(self):
        # Beside an order, such as that of Program, they take plain numbers and strings alone.
        for name, _, nodes in trees():
            used = {node.id for node in nodes if isinstance(node, ast.Name)}
            self.assertEqual(used & {"sorted", "min", "max", "set", "map"}, set(), name)

    def test_words_that_do_not_occur(self):
        for path, text in files():
            self.assertIsNone(BARRED_WORDS.search(text), path)

    def test_errors_are_created_where_they_are_raised(self):
        own = {"InvalidPaper", "NotUsable", "InvalidStep", "InvalidText", "InvalidEvent", "InvalidRow", "NothingToUndo", "Broken"}
        for name, _, nodes in trees():
            for node in nodes:
                if isinstance(node, ast.Raise):
                    self.assertIsInstance(node.exc, ast.Call, name)
                    # A class with [ ] but without an iteration says so by an error of Python's own.
                    self.assertIn(node.exc.func.id, own | {"TypeError"}, name)
                if isinstance(node, ast.ExceptHandler):
                    self.assertIn(node.type.id, own, name)

    def test_what_runs_at_the_end_only_assigns(self):
        for name, _, nodes in trees():
            for node in nodes:
                rows = node.finalbody if isinstance(node, ast.Try) else []
                if isinstance(node, ast.FunctionDef) and node.name == "__exit__":
                    rows = node.body
                for row in rows:
                    self.assertIsInstance(row, ast.Assign, name)
                    self.assertIsInstance(row.value, (ast.Name, ast.Attribute), name)

    def test_no_outer_list_is_changed(self):
        # Operators and properties change no list that they were passed, nor does what they call.
        for name, _, nodes in trees():
            for node in nodes:
                if isinstance(node, ast.FunctionDef):
                    passed = {arg.arg for arg in node.args.args}
                    for inner in ast.walk(node):
                        if isinstance(inner, ast.Attribute) and inner.attr in ("append", "extend", "pop", "insert", "update"):
                            self.assertIsInstance(inner.value, ast.Name, name)
                            self.assertNotIn(inner.value.id, passed, (name, node.name))
                        if isinstance(inner, ast.Subscript) and isinstance(inner.ctx, ast.Store):
                            self.assertNotIn(inner.value.id, passed, (name, node.name))


    def test_only_what_a_function_created_itself_is_changed(self):
        # So is whatever an operator or a property calls.
        for name, _, nodes in trees():
            for node in nodes:
                if isinstance(node, ast.FunctionDef):
                    inner = list(ast.walk(node))
                    changed = [part.func.value.id for part in inner if isinstance(part, ast.Call) and isinstance(
                        part.func, ast.Attribute) and part.func.attr in ("append", "extend", "pop", "insert", "update", "clear")]
                    changed += [part.value.id for part in inner if isinstance(part, ast.Subscript) and isinstance(
                        part.ctx, (ast.Store, ast.Del))]
                    for part in inner:
                        if isinstance(part, ast.Assign) and isinstance(part.targets[0], ast.Name) and part.targets[0].id in changed:
                            is_copy = isinstance(part.value, ast.Call) and getattr(part.value.func, "id", "") == "list"
                            self.assertTrue(is_copy or isinstance(part.value, (ast.List, ast.Dict, ast.ListComp)),
                                            (name, part.lineno))

    def test_reversed_takes_what_is_plainly_a_list(self):
        for name, _, nodes in trees():
            for node in nodes:
                if isinstance(node, ast.Call) and isinstance(node.func, ast.Name) and node.func.id == "reversed":
                    self.assertIn(getattr(getattr(node.args[0], "func", None), "id", ""), ("list", "tuple"), name)

    def test_loops_change_nothing_that_they_go_over(self):
        # Neither by its name nor by one that it is given, or that is given to it, anywhere in the function.
        for name, _, nodes in trees():
            for node in nodes:
                if isinstance(node, ast.FunctionDef):
                    alike = names_alike(node)
                    for loop in [part for part in ast.walk(node) if isinstance(part, ast.For)]:
                        over = {part.id for part in ast.walk(loop.iter) if isinstance(part, ast.Name)}
                        over |= {other for pair in alike for other in pair if over & set(pair)}
                        for part in [part for row in loop.body for part in ast.walk(row)]:
                            if isinstance(part, ast.Attribute) and part.attr in CHANGING:
                                self.assertNotIn(part.value.id, over, (name, part.lineno))
                            if isinstance(part, ast.Subscript) and isinstance(part.ctx, (ast.Store, ast.Del)):
                                self.assertNotIn(part.value.id, over, (name, part.lineno))

    def test_names_alike_are_found(self):
        source = "def f(ahead):\n    while ahead:\n        more = []\n        for one in ahead:\n            more.append(one)\n        ahead = more\n"
        self.assertEqual(names_alike(ast.parse(source).body[0]), [("ahead", "more")])
        self.assertEqual(names_alike(ast.parse(source.replace("= more", "= list(more)")).body[0]), [])


if __name__ == "__main__":
    unittest.main()
