"""The rules of LANGUAGE.md that a look at the syntax can check, over all files of the package."""

import ast
import builtins
import pathlib
import re
import unittest

PACKAGE = pathlib.Path(__file__).resolve().parent.parent / "quotehome"
LIBRARY = {"heapq", "math", "itertools", "collections"}
BUILTINS = set(
    "len range enumerate zip min max sum abs sorted reversed int str bool bytes list tuple dict set frozenset"
    " isinstance ord repr any all divmod pow getattr hasattr setattr map iter next property staticmethod classmethod"
    " super Exception ValueError TypeError KeyError IndexError LookupError ZeroDivisionError ArithmeticError"
    " OverflowError RuntimeError NotImplementedError AttributeError StopIteration NotImplemented".split())
BUILTIN_METHODS = set(
    "append clear copy count endswith extend find get index insert isalnum isalpha isdigit islower isspace isupper"
    " items join keys ljust lower lstrip partition pop remove replace reverse rfind rjust rpartition rsplit rstrip"
    " setdefault split splitlines startswith strip update upper values zfill bit_length add discard isascii".split())
CHANGING = set("append clear extend insert pop remove reverse setdefault update sort add discard".split())
HEAPING = {"heappush", "heappop", "heapify", "heapreplace", "heappushpop"}
DOUBLE = set(
    "__init__ __eq__ __repr__ __str__ __len__ __enter__ __exit__ __call__ __iter__ __or__ __contains__ __getitem__"
    " __bool__ __class__ __name__".split())
TYPING = set(
    "typing typing_extensions enum Enum IntEnum StrEnum Flag IntFlag Generic Protocol ABC ABCMeta namedtuple"
    " NamedTuple TypedDict TYPE_CHECKING abstractmethod dataclass overload contextmanager".split())
BARRED = TYPING | set(
    "type register mro elements open input law version_info with_traceback add_note eval exec compile dir exit gc"
    " globals help id locals os quit vars sys license".split())
NODES = (
    ast.Module, ast.Import, ast.ImportFrom, ast.alias, ast.FunctionDef, ast.arguments, ast.arg, ast.ClassDef,
    ast.Assign, ast.AugAssign, ast.If, ast.While, ast.For, ast.Return, ast.Break, ast.Continue, ast.Pass, ast.Raise,
    ast.Expr, ast.With, ast.withitem, ast.Yield, ast.YieldFrom, ast.Try, ast.ExceptHandler, ast.Delete, ast.Assert,
    ast.Name, ast.Attribute, ast.Subscript, ast.Slice, ast.Constant, ast.Tuple, ast.List, ast.Dict, ast.Set,
    ast.BinOp, ast.BoolOp, ast.UnaryOp, ast.Compare, ast.IfExp, ast.Call, ast.keyword, ast.Starred, ast.Lambda,
    ast.ListComp, ast.SetComp, ast.DictComp, ast.GeneratorExp, ast.comprehension, ast.JoinedStr, ast.FormattedValue,
    ast.expr_context, ast.operator, ast.unaryop, ast.boolop, ast.cmpop,
)


def trees():
    return {path: ast.parse(path.read_text()) for path in sorted(PACKAGE.rglob("*.py"))}


def functions(tree):
    return [node for node in ast.walk(tree) if isinstance(node, ast.FunctionDef)]


def stored(tree):
    """The names that are bound below a node: parameters, variables, functions and classes."""
    names = [node.id for node in ast.walk(tree) if isinstance(node, ast.Name) and isinstance(node.ctx, ast.Store)]
    names += [node.arg for node in ast.walk(tree) if isinstance(node, ast.arg)]
    return names


def bound_at_top(tree):
    names = []
    for node in tree.body:
        if isinstance(node, (ast.FunctionDef, ast.ClassDef)):
            names.append(node.name)
        elif isinstance(node, ast.ImportFrom):
            names += [alias.name for alias in node.names]
        elif isinstance(node, ast.Assign):
            names += stored(node)
    return names


def called_name(call):
    return call.func.id if isinstance(call.func, ast.Name) else getattr(call.func, "attr", None)


def sources(function, node, generators, seen=()):
    """The texts of what a value may be, or may have been made with and still hold: names and fields."""
    if isinstance(node, ast.Call):
        name = called_name(node)
        if name in ("list", "tuple", "sorted", "range", "len", "dict", "set"):
            return set()
        # What is made with a value may hold it.
        parts = list(node.args) + [keyword.value for keyword in node.keywords]
        if isinstance(node.func, ast.Attribute) and (name in ("items", "keys", "values") or name in generators):
            parts.append(node.func.value)
    elif isinstance(node, ast.IfExp):
        parts = [node.body, node.orelse]
    elif isinstance(node, ast.BoolOp):
        parts = node.values
    elif isinstance(node, ast.Starred):
        parts = [node.value]
    elif isinstance(node, (ast.Attribute, ast.Subscript)):
        parts = [node.value]
    elif isinstance(node, ast.Name) and node.id not in seen:
        seen = seen + (node.id,)
        parts = [
            other.value for other in ast.walk(function) if isinstance(other, ast.Assign)
            for target in other.targets if isinstance(target, ast.Name) and target.id == node.id]
    else:
        parts = []
    found = {part for value in parts for part in sources(function, value, generators, seen)}
    return found | {ast.unparse(node)} if isinstance(node, (ast.Name, ast.Attribute, ast.Subscript)) else found


def changed(loop):
    """The texts of what the rows of a loop change: their items, or by a method."""
    found = set()
    for node in [node for row in loop.body for node in ast.walk(row)]:
        if isinstance(node, ast.Subscript) and not isinstance(node.ctx, ast.Load):
            found.add(ast.unparse(node.value))
        elif isinstance(node, ast.AugAssign):
            found.add(ast.unparse(node.target))
        elif isinstance(node, ast.Call) and isinstance(node.func, ast.Attribute) and node.func.attr in CHANGING:
            found.add(ast.unparse(node.func.value))
        elif isinstance(node, ast.Call) and called_name(node) in HEAPING:
            found.add(ast.unparse(node.args[0]))
    return found


def walked_and_changed(tree, generators):
    """The pairs of a line and a text: what a loop walks, holds or was made with, and changes."""
    return [
        (loop.lineno, text) for function in functions(tree) for loop in ast.walk(function) if isinstance(loop, ast.For)
        for text in sorted(sources(function, loop.iter, generators) & changed(loop))]


def generator_names():
    return {
        function.name for tree in trees().values() for function in functions(tree)
        if any(isinstance(node, (ast.Yield, ast.YieldFrom)) for node in ast.walk(function))}


def attributes(tree):
    return [node.attr for node in ast.walk(tree) if isinstance(node, ast.Attribute)]


class LanguageTest(unittest.TestCase):
    def test_files_and_characters(self):
        for path in PACKAGE.rglob("*"):
            if "__pycache__" not in path.parts:
                self.assertRegex(path.name, r"^[a-z0-9_]+\.py$")
                self.assertNotRegex(path.read_text(), r"[^\n -~]")

    def test_sizes(self):
        for path, tree in trees().items():
            lines = path.read_text().split("\n")
            self.assertLessEqual(len(lines), 399, path)
            self.assertLessEqual(max(len(line) for line in lines), 120, path)
            for function in functions(tree):
                self.assertLessEqual(function.end_lineno - function.lineno + 1, 40, (path, function.name))

    def test_kinds_of_statements_and_expressions(self):
        for path, tree in trees().items():
            for node in ast.walk(tree):
                self.assertIsInstance(node, NODES, (path, getattr(node, "lineno", None)))
                self.assertNotIsInstance(node, (ast.Import, ast.Div, ast.MatMult), path)
                if isinstance(node, ast.Constant):
                    self.assertNotIsInstance(node.value, (float, complex), (path, node.lineno))
                    self.assertNotIn("%", node.value if isinstance(node.value, str) else "", (path, node.lineno))

    def test_module_level(self):
        for path, tree in trees().items():
            for node in tree.body:
                self.assertIsInstance(node, (ast.Expr, ast.ImportFrom, ast.FunctionDef, ast.ClassDef, ast.Assign))
                if isinstance(node, ast.Expr):
                    self.assertIsInstance(node.value, ast.Constant, path)
            names = bound_at_top(tree)
            self.assertEqual(len(names), len(set(names)), path)

    def test_imports(self):
        above = {}
        for path, tree in trees().items():
            imports = [node for node in ast.walk(tree) if isinstance(node, ast.ImportFrom)]
            above[path.stem] = []
            for node in imports:
                self.assertIn(node, tree.body)
                if node.module not in LIBRARY:
                    package, name = node.module.split(".")
                    self.assertEqual((package, node.level), ("quotehome", 0), path)
                    above[path.stem].append(name)
                    source = ast.parse((PACKAGE / (name + ".py")).read_text())
                    defined = bound_at_top(ast.Module([n for n in source.body if not isinstance(n, ast.ImportFrom)]))
                    self.assertLessEqual({alias.name for alias in node.names}, set(defined), path)
                self.assertTrue(all(alias.asname is None for alias in node.names))
                used = {name.id for name in ast.walk(tree) if isinstance(name, ast.Name)}
                self.assertLessEqual({alias.name for alias in node.names}, used, path)
        while above:
            free = [name for name in above if not any(other in above for other in above[name])]
            self.assertTrue(free, above)
            above = {name: above[name] for name in above if name not in free}

    def test_names(self):
        for path, tree in trees().items():
            own = {node.name for node in tree.body if isinstance(node, ast.ClassDef)}
            own |= {alias.name for node in tree.body if isinstance(node, ast.ImportFrom) for alias in node.names}
            for function in functions(tree):
                for name in stored(function):
                    self.assertNotIn(name, own, (path, function.name))
            for name in stored(tree) + bound_at_top(tree):
                self.assertFalse(hasattr(builtins, name), (path, name))
                self.assertRegex(name, r"^(_|_?[A-Za-z][A-Za-z0-9_]*)$")
                self.assertNotIn(name, BARRED)
            defined = [node.name for node in ast.walk(tree) if isinstance(node, (ast.FunctionDef, ast.ClassDef))]
            for name in defined + attributes(tree):
                self.assertTrue(not name.startswith("__") or name in DOUBLE, (path, name))
                self.assertNotIn(name, BARRED)

    def test_builtins(self):
        for path, tree in trees().items():
            known = set(stored(tree) + bound_at_top(tree))
            for node in ast.walk(tree):
                if isinstance(node, ast.Name) and isinstance(node.ctx, ast.Load) and node.id not in known:
                    self.assertIn(node.id, BUILTINS, (path, node.lineno))

    def test_methods_that_are_called(self):
        own = {function.name for tree in trees().values() for function in functions(tree)}
        # An attribute can be an object that is called.
        own |= {
            node.attr for tree in trees().values() for node in ast.walk(tree)
            if isinstance(node, ast.Attribute) and isinstance(node.ctx, ast.Store)}
        for path, tree in trees().items():
            for node in ast.walk(tree):
                if isinstance(node, ast.Call) and isinstance(node.func, ast.Attribute):
                    self.assertIn(node.func.attr, BUILTIN_METHODS | own, (path, node.lineno))

    def test_decorators(self):
        for path, tree in trees().items():
            for function in functions(tree):
                for decorator in function.decorator_list:
                    self.assertRegex(ast.unparse(decorator), r"^(property|staticmethod|classmethod|\w+\.setter)$")

    def test_lists_in_place_of_generator_expressions(self):
        for path, tree in trees().items():
            for node in ast.walk(tree):
                self.assertNotIsInstance(node, ast.GeneratorExp, path)

    def test_generators_have_names_of_their_own(self):
        everything = [function for tree in trees().values() for function in functions(tree)]
        names = [function.name for function in everything]
        for function in everything:
            if any(isinstance(node, (ast.Yield, ast.YieldFrom)) for node in ast.walk(function)):
                self.assertEqual(names.count(function.name), 1, function.name)

    def test_no_name_is_a_method_and_an_attribute(self):
        methods = {
            function.name for tree in trees().values() for node in tree.body if isinstance(node, ast.ClassDef)
            for function in functions(node)}
        for path, tree in trees().items():
            for node in ast.walk(tree):
                if isinstance(node, ast.Attribute) and isinstance(node.ctx, ast.Store):
                    self.assertNotIn(node.attr, methods, (path, node.lineno))

    def test_properties_are_not_assigned_without_a_setter(self):
        properties, setters = set(), set()
        for tree in trees().values():
            for function in functions(tree):
                for decorator in function.decorator_list:
                    kind = ast.unparse(decorator)
                    if kind == "property":
                        properties.add(function.name)
                    elif kind.endswith(".setter"):
                        setters.add(function.name)
        for path, tree in trees().items():
            for node in ast.walk(tree):
                if isinstance(node, ast.Attribute) and isinstance(node.ctx, ast.Store):
                    self.assertNotIn(node.attr, properties, (path, node.lineno))
                if isinstance(node, ast.Call) and isinstance(node.func, ast.Attribute):
                    self.assertNotIn(node.func.attr, properties, (path, node.lineno))
        self.assertEqual(setters, {"asker"})

    def test_what_is_reversed(self):
        for path, tree in trees().items():
            for node in ast.walk(tree):
                if isinstance(node, ast.Call) and ast.unparse(node.func) == "reversed":
                    self.assertRegex(ast.unparse(node.args[0]), r"^(list|tuple|sorted|range)\(", (path, node.lineno))

    def test_generators_are_called_at_once(self):
        names = generator_names()
        self.assertLessEqual({"missed", "find", "hits", "ways", "rewordings"}, names)
        for path, tree in trees().items():
            at_once = [node.iter for node in ast.walk(tree) if isinstance(node, (ast.For, ast.comprehension))]
            at_once += [node.value for node in ast.walk(tree) if isinstance(node, ast.YieldFrom)]
            for node in ast.walk(tree):
                if isinstance(node, ast.Call):
                    self.assertTrue(called_name(node) not in names or node in at_once, (path, node.lineno))

    def test_what_a_loop_walks_is_not_changed_in_it(self):
        generators = generator_names()
        for path, tree in trees().items():
            self.assertEqual(walked_and_changed(tree, generators), [], path)

    def test_how_loops_are_looked_at(self):
        wrong = [
            ("rows", "rows.append(1)"), ("rows", "rows[0] = 1"), ("rows", "del rows[0]"), ("rows", "rows += [1]"),
            ("enumerate(rows)", "rows.pop()"), ("self.rows", "self.rows.pop()"), ("rows.items()", "rows[1] = 1"),
            ("rows if rows else more", "more.pop()"), ("rows or more", "more.pop()"), ("zip(more, rows)", "rows.pop()"),
            ("rows.values()", "if rows:\n   rows.update(more)"), ("walk(rows)", "rows.pop()"),
            ("same", "rows.append(1)"), ("box.rows.items()", "more[1] = 1"), ("box.rows", "more.pop()")]
        right = [
            ("list(rows)", "rows.append(1)"), ("list(box.rows.items())", "more[1] = 1"), ("rows", "other.append(1)"),
            ("self.rows", "self.more.pop()"), ("range(len(rows))", "rows[0] = 1"), ("sorted(rows)", "del rows[0]")]
        for pairs, are_wrong in [(wrong, True), (right, False)]:
            for walked, row in pairs:
                code = f"def f(rows, more):\n same = rows\n box = Box(1, more)\n for _ in {walked}:\n  {row}\n"
                self.assertEqual(len(walked_and_changed(ast.parse(code), {"walk"})) > 0, are_wrong, (walked, row))

    def test_sets(self):
        for path, tree in trees().items():
            for node in ast.walk(tree):
                if isinstance(node, (ast.For, ast.comprehension)):
                    self.assertNotIsInstance(node.iter, (ast.Set, ast.SetComp), path)
                if isinstance(node, ast.Call) and any(isinstance(part, ast.SetComp) for part in node.args):
                    self.assertIn(ast.unparse(node.func), ("sorted", "len"), (path, node.lineno))
                    self.assertEqual(node.keywords, [], (path, node.lineno))

    def test_barred_words_in_strings(self):
        for path, tree in trees().items():
            for node in ast.walk(tree):
                if isinstance(node, ast.Constant) and isinstance(node.value, str):
                    self.assertFalse(TYPING & set(re.findall(r"\w+", node.value)), (path, node.lineno))
            self.assertNotRegex(path.read_text(), r"\(type\)|Meta|metaclass=|_wall")


if __name__ == "__main__":
    unittest.main()
