"""Rules of LANGUAGE.md that can be told from the files alone; it is not all of them."""

import ast
import builtins
import io
import re
import tokenize
import unittest
from pathlib import Path

PACKAGE = Path(__file__).resolve().parent.parent / "anymethod"
FILES = sorted(PACKAGE.rglob("*.py"))
LIBRARY = {
    "heapq": {"heappush", "heappop", "heapify", "heapreplace", "heappushpop"},
    "math": {"gcd", "lcm", "isqrt", "comb", "perm", "factorial"},
    "itertools": {"product", "combinations", "permutations"},
}
BARRED = set(
    "register mro elements open input law version_info with_traceback add_note type typing typing_extensions enum Enum"
    " IntEnum StrEnum Flag IntFlag Generic Protocol ABC ABCMeta namedtuple NamedTuple TypedDict TYPE_CHECKING"
    " abstractmethod".split()
)
BUILTINS_IN_USE = set(
    "len range enumerate zip min max sum abs sorted reversed int str bool list tuple dict set isinstance ord repr any all"
    " divmod iter next map object property staticmethod classmethod super Exception ValueError TypeError KeyError"
    " IndexError LookupError ZeroDivisionError NotImplemented True False None".split()
)
STATEMENTS = (ast.Import, ast.Global, ast.AsyncFunctionDef, ast.AsyncFor, ast.AsyncWith, ast.Await)
TAKE_A_LIST = ("any", "all", "min", "max", "sum", "sorted")


def bound_names(tree):
    """The names of variables, parameters, functions and classes, methods aside."""
    methods = {id(row) for node in ast.walk(tree) if isinstance(node, ast.ClassDef) for row in node.body}
    for node in ast.walk(tree):
        if isinstance(node, ast.Name) and not isinstance(node.ctx, ast.Load):
            yield node.id
        elif isinstance(node, ast.arg):
            yield node.arg
        elif isinstance(node, (ast.FunctionDef, ast.ClassDef)) and id(node) not in methods:
            yield node.name


def code_words(text):
    """The words of the names and strings, without comments and docstrings."""
    tree = ast.parse(text)
    docstrings = {
        node.body[0].lineno for node in ast.walk(tree)
        if isinstance(node, (ast.Module, ast.ClassDef, ast.FunctionDef)) and ast.get_docstring(node) is not None
    }
    for token in tokenize.generate_tokens(io.StringIO(text).readline):
        if token.type != tokenize.COMMENT and not (token.type == tokenize.STRING and token.start[0] in docstrings):
            yield from re.findall(r"\w+", token.string)


class LanguageTest(unittest.TestCase):
    def each(self):
        for path in FILES:
            text = path.read_text(encoding="utf-8")
            yield path, text, ast.parse(text)

    def test_the_folder_holds_nothing_else(self):
        self.assertIn(PACKAGE / "__init__.py", FILES)
        for path in PACKAGE.rglob("*"):
            if "__pycache__" not in path.parts:
                self.assertRegex(path.name, r"^([a-z][a-z0-9_]*|__init__|__main__)\.py$")

    def test_characters_and_lines(self):
        for path, text, _ in self.each():
            self.assertRegex(text, r"\A[ -~\n]*\Z", path.name)
            self.assertLessEqual(len(text.splitlines()), 399, path.name)
            for line in text.splitlines():
                self.assertLessEqual(len(line), 120, line)

    def test_functions_are_small(self):
        for _, _, tree in self.each():
            for node in ast.walk(tree):
                if isinstance(node, ast.FunctionDef):
                    self.assertLessEqual(node.end_lineno - node.lineno + 1, 40, node.name)

    def test_imports(self):
        defined = {}
        for path, _, tree in self.each():
            module = ".".join(path.relative_to(PACKAGE.parent).with_suffix("").parts)
            defined[module] = {node.name for node in tree.body if isinstance(node, (ast.FunctionDef, ast.ClassDef))}
            defined[module] |= {node.targets[0].id for node in tree.body if isinstance(node, ast.Assign)}
        known = {**LIBRARY, **defined}
        for path, _, tree in self.each():
            for node in ast.walk(tree):
                self.assertNotIsInstance(node, STATEMENTS, path.name)
                if isinstance(node, ast.ImportFrom):
                    self.assertEqual(node.level, 0, path.name)
                    for alias in node.names:
                        self.assertIn(alias.name, known.get(node.module, ()), path.name)

    def test_module_level(self):
        allowed = (ast.ImportFrom, ast.FunctionDef, ast.ClassDef, ast.Assign)
        for path, _, tree in self.each():
            for node in tree.body[1:]:
                self.assertIsInstance(node, allowed, path.name)
            self.assertIsNotNone(ast.get_docstring(tree), path.name)

    def test_numbers_and_strings(self):
        for path, _, tree in self.each():
            for node in ast.walk(tree):
                if isinstance(node, ast.Constant):
                    self.assertNotIsInstance(node.value, (float, complex), path.name)
                    self.assertNotIn("%", str(node.value), path.name)
                self.assertNotIsInstance(node, (ast.Div, ast.MatMult), path.name)
                if isinstance(node, ast.BinOp) and isinstance(node.op, ast.Pow):
                    self.assertIsInstance(node.right, ast.Constant, path.name)

    def test_names(self):
        for path, text, tree in self.each():
            self.assertEqual(set(bound_names(tree)) & set(dir(builtins)), set(), path.name)
            self.assertEqual(set(code_words(text)) & BARRED, set(), path.name)
            used = {node.id for node in ast.walk(tree) if isinstance(node, ast.Name) and isinstance(node.ctx, ast.Load)}
            self.assertEqual((used & set(dir(builtins))) - BUILTINS_IN_USE, set(), path.name)

    def test_each_import_is_used_and_no_name_hides_it(self):
        for path, _, tree in self.each():
            imported = {alias.name for node in tree.body if isinstance(node, ast.ImportFrom) for alias in node.names}
            used = {node.id for node in ast.walk(tree) if isinstance(node, ast.Name) and isinstance(node.ctx, ast.Load)}
            self.assertEqual(imported - used, set(), path.name)
            classes = {node.name for node in tree.body if isinstance(node, ast.ClassDef)}
            local = {node.arg for node in ast.walk(tree) if isinstance(node, ast.arg)}
            local |= {node.id for node in ast.walk(tree) if isinstance(node, ast.Name) and isinstance(node.ctx, ast.Store)}
            self.assertEqual(local & (imported | classes), set(), path.name)

    def test_no_two_files_import_from_each_other(self):
        below = {}
        for path, _, tree in self.each():
            below[path.stem] = {node.module.rpartition(".")[2] for node in tree.body if isinstance(node, ast.ImportFrom)}
        left = dict(below)
        while left:
            free = [name for name in left if not left[name] & set(left)]
            self.assertNotEqual(free, [], left)
            for name in free:
                del left[name]

    def test_no_name_is_a_method_and_an_attribute(self):
        methods, stored, properties, generators = set(), set(), set(), []
        for _, _, tree in self.each():
            for node in ast.walk(tree):
                if isinstance(node, ast.ClassDef):
                    for row in node.body:
                        if isinstance(row, ast.FunctionDef):
                            properties |= {row.name} if row.decorator_list else set()
                            methods.add(row.name)
                if isinstance(node, ast.Attribute) and isinstance(node.ctx, ast.Store):
                    stored.add(node.attr)
                if isinstance(node, ast.FunctionDef) and any(isinstance(each, (ast.Yield, ast.YieldFrom))
                                                             for each in ast.walk(node)):
                    generators.append(node.name)
        self.assertEqual(methods & stored - properties, set())
        self.assertEqual(generators, ["choices"])

    def test_only_plain_things_are_sorted(self):
        """Ratios and series are compared in a way that sorted, min and max are not to rely on."""
        for path, _, tree in self.each():
            for node in ast.walk(tree):
                if isinstance(node, ast.Call) and getattr(node.func, "id", None) == "sorted":
                    given = node.args[0].args[0] if isinstance(node.args[0], ast.Call) else node.args[0]
                    self.assertIsInstance(given, ast.ListComp, path.name)
                    self.assertIn(getattr(given.elt.func, "id", None), ("str", "int"), path.name)

    def test_no_generator_expression_where_a_list_is_due(self):
        for path, _, tree in self.each():
            for node in ast.walk(tree):
                if isinstance(node, ast.Call) and isinstance(node.func, ast.Name) and node.func.id in TAKE_A_LIST:
                    for given in node.args:
                        self.assertNotIsInstance(given, ast.GeneratorExp, path.name)

    def test_what_stands_beside_an_item_operator(self):
        for path, text, tree in self.each():
            for words in ("(type)", "Meta", "metaclass="):
                self.assertNotIn(words, text, path.name)
            for node in ast.walk(tree):
                if isinstance(node, ast.Attribute):
                    self.assertFalse(node.attr == "keys" and isinstance(node.ctx, ast.Store), path.name)
                if isinstance(node, ast.Call) and isinstance(node.func, ast.Name) and node.func.id == "reversed":
                    self.assertIn(getattr(node.args[0].func, "id", None), ("list", "tuple", "sorted", "range"), path.name)
                if isinstance(node, ast.ClassDef):
                    names = {row.name for row in node.body if isinstance(row, ast.FunctionDef)}
                    self.assertNotIn("keys", names)
                    self.assertTrue("__iter__" in names or "__getitem__" not in names, node.name)

    def test_operators_change_nothing(self):
        functions = {}
        start = set()
        for _, _, tree in self.each():
            for node in ast.walk(tree):
                if isinstance(node, ast.FunctionDef):
                    functions.setdefault(node.name, []).append(node)
                    if node.name.startswith("__") and node.name not in FREE:
                        start.add(node.name)
        reached, left = set(), start
        while left:
            name = left.pop()
            reached.add(name)
            for function in functions[name]:
                left |= called_names(function) & set(functions) - reached
        for name in reached - set(FREE):
            for function in functions[name]:
                self.assertEqual(changes_of(function), [], name)


# What may change things: creating an object, the operators in place, and the rest that is no operator.
FREE = ("__init__", "__setitem__", "__ior__", "__enter__", "__exit__", "__call__", "__iter__")
MODIFYING = ("append", "clear", "extend", "insert", "pop", "remove", "reverse", "setdefault", "update", "sort", "add")


def called_names(function):
    for_calls = {node.func for node in ast.walk(function) if isinstance(node, ast.Call)}
    names = {func.id for func in for_calls if isinstance(func, ast.Name)}
    return names | {func.attr for func in for_calls if isinstance(func, ast.Attribute)}


def changes_of(function):
    """The lines on which a function changes something else than a list or dict that it made itself."""
    own = set()
    for node in ast.walk(function):
        if isinstance(node, ast.Assign) and isinstance(node.targets[0], ast.Name):
            made = node.value
            if isinstance(made, (ast.List, ast.Dict, ast.ListComp)) or (
                    isinstance(made, ast.Call) and getattr(made.func, "id", None) in ("list", "dict", "sorted")):
                own.add(node.targets[0].id)
    lines = []
    for node in ast.walk(function):
        if isinstance(node, (ast.AugAssign, ast.Delete, ast.Nonlocal)):
            lines.append(node.lineno)
        elif isinstance(node, (ast.Attribute, ast.Subscript)) and isinstance(node.ctx, ast.Store):
            if isinstance(node, ast.Attribute) or getattr(node.value, "id", None) not in own:
                lines.append(node.lineno)
        elif isinstance(node, ast.Call) and getattr(node.func, "attr", None) in MODIFYING:
            if getattr(node.func.value, "id", None) not in own:
                lines.append(node.lineno)
    return lines


if __name__ == "__main__":
    unittest.main()
