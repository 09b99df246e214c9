"""Checks the rules of the language subset that a look at the syntax can decide."""

import ast
import builtins
import os
import re
import unittest

FOLDER = os.path.join(os.path.dirname(os.path.dirname(os.path.abspath(__file__))), "threadmark")

STATEMENTS = (
    ast.Assign, ast.AugAssign, ast.If, ast.While, ast.For, ast.Return, ast.Break, ast.Continue, ast.Pass, ast.Raise,
    ast.Assert, ast.Delete, ast.Nonlocal, ast.Match, ast.With, ast.Try, ast.Expr, ast.FunctionDef, ast.ClassDef,
    ast.ImportFrom,
)
BUILTINS = set(
    "len range enumerate zip min max sum abs sorted reversed int str bool list tuple dict set frozenset isinstance "
    "ord repr any all divmod Exception ValueError TypeError KeyError IndexError LookupError ZeroDivisionError "
    "ArithmeticError OverflowError RuntimeError NotImplementedError AttributeError NotImplemented "
    "property staticmethod classmethod super iter next".split()
)
BUILTIN_METHODS = set(
    "append clear copy count endswith extend find get index insert isalnum isalpha isdigit islower isspace isupper "
    "items join keys ljust lower lstrip partition pop remove replace reverse rfind rjust rpartition rsplit rstrip "
    "setdefault split splitlines startswith strip update upper values zfill bit_length title capitalize swapcase "
    "casefold center expandtabs removeprefix removesuffix rindex isascii isdecimal isnumeric istitle isidentifier "
    "isprintable translate".split()
)
DOUBLE_UNDERSCORE = set(
    "__init__ __eq__ __repr__ __str__ __len__ __enter__ __exit__ __call__ __iter__ __ne__ __mul__ __neg__ "
    "__contains__".split()
)
BARRED_WORDS = set(
    "type typing typing_extensions enum Enum IntEnum StrEnum Flag IntFlag Generic Protocol ABC ABCMeta namedtuple "
    "NamedTuple TypedDict TYPE_CHECKING abstractmethod".split()
)
BARRED_NAMES = set(
    "register mro elements open input law version_info with_traceback add_note attrgetter breakpoint builtins compile "
    "copyright credits delattr dir eval exec exit gc getattr globals hasattr help id importlib license locals "
    "methodcaller os quit setattr type vars sys format format_map".split()
)
CHANGING = ("append", "pop", "extend", "insert", "remove", "clear", "update", "setdefault", "reverse", "sort")


def sources():
    """Each file of the package with its text and its tree."""
    for name in sorted(os.listdir(FOLDER)):
        if name != "__pycache__":
            with open(os.path.join(FOLDER, name), encoding="utf-8", newline="") as file:
                text = file.read()
            yield name, text, ast.parse(text)


def for_each_file(check):
    """Makes a test of a check of one file."""
    def test(self):
        for name, text, tree in sources():
            with self.subTest(file=name):
                check(self, name, text, tree)
    return test


def bound_names(tree):
    """All names that functions, parameters, assignments and handlers of a tree bind."""
    for node in ast.walk(tree):
        if isinstance(node, (ast.FunctionDef, ast.ClassDef)):
            yield node.name
        elif isinstance(node, ast.arg):
            yield node.arg
        elif isinstance(node, ast.Name) and not isinstance(node.ctx, ast.Load):
            yield node.id
        elif isinstance(node, ast.ExceptHandler) and node.name:
            yield node.name
        elif isinstance(node, ast.alias):
            yield node.asname or node.name


def local_names(tree):
    """The parameters and local variables of all functions of a tree."""
    for function in ast.walk(tree):
        if isinstance(function, ast.FunctionDef):
            for node in ast.walk(function):
                if isinstance(node, ast.arg):
                    yield node.arg
                elif isinstance(node, ast.Name) and not isinstance(node.ctx, ast.Load):
                    yield node.id


def is_plain(node, functions):
    """Whether an expression at module level is a plain value."""
    if isinstance(node, (ast.Tuple, ast.List)):
        return all(is_plain(item, functions) for item in node.elts)
    if isinstance(node, ast.Dict):
        return all(is_plain(item, functions) for item in node.keys + node.values)
    if isinstance(node, ast.Name):
        return node.id in functions
    return isinstance(node, ast.Constant) and not isinstance(node.value, (float, complex))


class LanguageTest(unittest.TestCase):
    def test_package(self):
        self.assertIn("__init__.py", os.listdir(FOLDER))

    @for_each_file
    def test_files(self, name, text, tree):
        self.assertRegex(name, r"\A([a-z][a-z0-9_]*|__init__)\.py\Z")
        self.assertLess(len(text.splitlines()), 400)
        self.assertRegex(text, r"\A[\n -~]*\Z")
        for line in text.splitlines():
            self.assertLessEqual(len(line), 120)

    @for_each_file
    def test_words(self, name, text, tree):
        self.assertEqual(set(), BARRED_WORDS & set(re.findall(r"\w+", text)))
        for word in ("dataclass", "overload", "contextmanager"):
            self.assertNotIn(word, text)
        self.assertIsNone(re.search(r"\\[^nt\\'\"]", text))

    def test_imports(self):
        above = {}
        for name, text, tree in sources():
            body = tree.body[1:] if ast.get_docstring(tree) else tree.body
            heads = [isinstance(node, ast.ImportFrom) for node in body]
            self.assertEqual(sorted(heads, reverse=True), heads)
            imports = [node for node in ast.walk(tree) if isinstance(node, (ast.Import, ast.ImportFrom))]
            for node in imports:
                self.assertIn(node, tree.body)
                self.assertRegex(node.module, r"\Athreadmark\.\w+\Z")
                self.assertEqual(0, node.level)
                self.assertNotIn("*", [alias.name for alias in node.names])
                self.check_defines(node)
            above[name[:-3]] = [node.module.split(".")[1] for node in imports]
        while above:
            free = [name for name in above if not above[name]]
            self.assertTrue(free, above)
            above = {name: [x for x in above[name] if x not in free] for name in above if name not in free}

    def check_defines(self, node):
        with open(os.path.join(FOLDER, node.module.split(".")[1] + ".py"), encoding="utf-8") as file:
            tree = ast.parse(file.read())
        defined = [item.name for item in tree.body if isinstance(item, (ast.FunctionDef, ast.ClassDef))]
        for alias in node.names:
            self.assertIn(alias.name, defined)

    @for_each_file
    def test_module_level(self, name, text, tree):
        bound = []
        body = tree.body[1:] if ast.get_docstring(tree) else tree.body
        for node in body:
            if isinstance(node, ast.Assign):
                self.assertEqual(1, len(node.targets))
                self.assertIsInstance(node.targets[0], ast.Name)
                self.assertTrue(is_plain(node.value, bound))
                bound.append(node.targets[0].id)
            elif isinstance(node, ast.ImportFrom):
                bound += [alias.asname or alias.name for alias in node.names]
            else:
                self.assertIsInstance(node, (ast.FunctionDef, ast.ClassDef))
                bound.append(node.name)
        self.assertEqual(len(set(bound)), len(bound))

    @for_each_file
    def test_statements_and_expressions(self, name, text, tree):
        for node in ast.walk(tree):
            if isinstance(node, ast.stmt):
                self.assertIsInstance(node, STATEMENTS)
            self.assertNotIsInstance(node, (ast.Div, ast.Await, ast.Lambda, ast.AnnAssign, ast.GeneratorExp))
            if isinstance(node, ast.Constant):
                self.assertNotIsInstance(node.value, (float, complex))
                self.assertFalse(isinstance(node.value, str) and chr(37) in node.value)
            if isinstance(node, ast.Compare) and any(isinstance(op, (ast.Is, ast.IsNot)) for op in node.ops):
                self.assertIsInstance(node.comparators[0], ast.Constant)
                self.assertIn(node.comparators[0].value, (None, True, False))

    @for_each_file
    def test_functions(self, name, text, tree):
        for node in ast.walk(tree):
            if isinstance(node, ast.FunctionDef):
                self.assertLessEqual(node.end_lineno - node.lineno + 1, 40, node.name)
                self.assertEqual([], node.args.posonlyargs)
                for deco in node.decorator_list:
                    self.assertIn(ast.unparse(deco).split(".")[-1],
                                  ("property", "staticmethod", "classmethod", "setter"))
                for default in node.args.defaults + [x for x in node.args.kw_defaults if x]:
                    self.assertTrue(is_plain(default, []))
                if node.name.startswith("_"):
                    self.assertIn(node.name, DOUBLE_UNDERSCORE)

    @for_each_file
    def test_names(self, name, text, tree):
        for bound in bound_names(tree):
            if bound not in DOUBLE_UNDERSCORE:
                self.assertRegex(bound, r"\A[A-Za-z][A-Za-z0-9_]*\Z")
                self.assertNotIn(bound, BARRED_NAMES | set(dir(builtins)))
        top = [node.name for node in tree.body if isinstance(node, ast.ClassDef)]
        for node in tree.body:
            if isinstance(node, ast.ImportFrom):
                top += [alias.asname or alias.name for alias in node.names]
        self.assertEqual(set(), set(top) & set(local_names(tree)))

    @for_each_file
    def test_builtins(self, name, text, tree):
        bound = set(bound_names(tree))
        for node in ast.walk(tree):
            if isinstance(node, ast.Name) and isinstance(node.ctx, ast.Load) and node.id not in bound:
                self.assertIn(node.id, BUILTINS)

    def test_methods_and_attributes(self):
        methods = set()
        attributes = set()
        values = set()
        properties = set()
        for name, text, tree in sources():
            for item in [node for node in tree.body if isinstance(node, ast.ClassDef)]:
                for node in ast.walk(item):
                    if isinstance(node, ast.FunctionDef):
                        kinds = [ast.unparse(deco) for deco in node.decorator_list]
                        is_property = "property" in kinds or f"{node.name}.setter" in kinds
                        (properties if is_property else methods).add(node.name)
                    elif isinstance(node, ast.Attribute) and isinstance(node.ctx, ast.Store):
                        attributes.add(node.attr)
                values |= {node.targets[0].id for node in item.body if isinstance(node, ast.Assign)}
        self.assertEqual(set(), methods & (attributes | properties | values))
        self.assertEqual(set(), values & (attributes | properties))
        own = {name for name in methods if name not in DOUBLE_UNDERSCORE}
        plain = set()
        for value in ("", b"", 0, [], (), {}, set()):
            plain |= set(dir(value))
        self.assertEqual(set(), own & plain)
        self.assertLessEqual(attributes & plain, {"count", "index", "title", "find", "get", "join"})
        self.check_uses(own, attributes | values | properties)

    def check_uses(self, methods, attributes):
        for name, text, tree in sources():
            called = set()
            for node in ast.walk(tree):
                if isinstance(node, ast.Call) and isinstance(node.func, ast.Attribute):
                    called.add(node.func)
                    if ast.unparse(node.func) != "super().__init__":
                        self.assertIn(node.func.attr, methods | BUILTIN_METHODS)
            above = {deco for node in ast.walk(tree) for deco in getattr(node, "decorator_list", [])}
            for node in ast.walk(tree):
                if isinstance(node, ast.Attribute) and node not in called | above:
                    self.assertIn(node.attr, attributes)

    @for_each_file
    def test_stars_in_calls(self, name, text, tree):
        for node in ast.walk(tree):
            if isinstance(node, ast.Call):
                for part in node.args:
                    if isinstance(part, ast.Starred):
                        self.assertIsInstance(part.value, (ast.Name, ast.Attribute))

    @for_each_file
    def test_errors(self, name, text, tree):
        for node in ast.walk(tree):
            if isinstance(node, ast.Raise) and node.exc:
                self.assertIsInstance(node.exc, ast.Call)
                self.assertIsInstance(node.exc.func, ast.Name)
            elif isinstance(node, ast.ExceptHandler):
                self.assertIsNotNone(node.type)
                caught = {item.id for item in ast.walk(node.type) if isinstance(item, ast.Name)}
                self.assertEqual(set(), caught & BUILTINS)

    @for_each_file
    def test_loops_leave_their_lists_alone(self, name, text, tree):
        for loop in [node for node in ast.walk(tree) if isinstance(node, ast.For)]:
            over = ast.unparse(loop.iter)
            for node in [inner for row in loop.body for inner in ast.walk(row)]:
                if isinstance(node, ast.Call) and isinstance(node.func, ast.Attribute):
                    if node.func.attr in CHANGING:
                        self.assertNotEqual(over, ast.unparse(node.func.value))
                if isinstance(node, ast.Subscript) and not isinstance(node.ctx, ast.Load):
                    self.assertNotEqual(over, ast.unparse(node.value))


if __name__ == "__main__":
    unittest.main()
