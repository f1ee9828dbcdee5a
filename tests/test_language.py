"""That the files of the package keep to LANGUAGE.md, as far as a simple check can see it."""

import ast
import builtins
import pathlib
import re
import unittest

PACKAGE = pathlib.Path(__file__).resolve().parent.parent / "lamplight"
LIBRARY = {
    "heapq": "heappush heappop heapify heapreplace heappushpop".split(),
    "math": "gcd lcm isqrt comb perm factorial".split(),
    "itertools": "product combinations permutations".split(),
}
BUILTINS = """len range enumerate zip min max sum abs sorted reversed int str bool bytes list tuple dict set frozenset
    isinstance ord repr any all divmod map iter next Exception ValueError TypeError KeyError IndexError LookupError
    ZeroDivisionError ArithmeticError OverflowError RuntimeError NotImplementedError AttributeError StopIteration
    NotImplemented property staticmethod classmethod super object float""".split()
METHODS = """append clear copy count endswith extend find get index insert isalnum isalpha isdigit islower isspace
    isupper items join keys ljust lower lstrip partition pop remove replace reverse rfind rjust rpartition rsplit
    rstrip setdefault split splitlines startswith strip update upper values zfill bit_length title capitalize
    swapcase casefold center expandtabs removeprefix removesuffix rindex isascii isdecimal isnumeric istitle
    isidentifier isprintable translate add discard""".split()
BARRED_NAMES = """register mro elements open input law version_info with_traceback add_note attrgetter breakpoint
    builtins compile copyright credits delattr dir eval exec exit gc getattr globals hasattr help id importlib license
    locals methodcaller os quit setattr type vars sys""".split()
BARRED_WORDS = """type typing typing_extensions enum Enum IntEnum StrEnum Flag IntFlag Generic Protocol ABC ABCMeta
    namedtuple NamedTuple TypedDict TYPE_CHECKING abstractmethod""".split()
DOUBLE_UNDERSCORES = "__init__ __eq__ __repr__ __str__ __len__ __call__ __iter__ __enter__ __exit__".split()


def package_files():
    return sorted(PACKAGE.glob("*.py"))


def trees():
    return [(path.name, ast.parse(path.read_text(encoding="utf-8"))) for path in package_files()]


def nodes(kinds):
    return [(name, node) for name, tree in trees() for node in ast.walk(tree) if isinstance(node, kinds)]


def bound_names(tree):
    """All names that functions and loops of a file give: parameters and what is assigned."""
    names = [node for node in ast.walk(tree) if isinstance(node, ast.Name)]
    told = [node.arg for node in ast.walk(tree) if isinstance(node, ast.arg)]
    return told + [node.id for node in names if not isinstance(node.ctx, ast.Load)]


def defined(tree):
    kinds = (ast.FunctionDef, ast.ClassDef)
    told = [node.name for node in tree.body if isinstance(node, kinds)]
    return told + [target.id for node in tree.body if isinstance(node, ast.Assign) for target in node.targets]


def docstrings(tree):
    kinds = (ast.Module, ast.FunctionDef, ast.ClassDef)
    told = [node.body[0] for node in ast.walk(tree) if isinstance(node, kinds)]
    return [node.value for node in told if isinstance(node, ast.Expr) and isinstance(node.value, ast.Constant)]


class FilesTest(unittest.TestCase):
    def test_nothing_but_python_files(self):
        there = [path.name for path in PACKAGE.iterdir() if path.name != "__pycache__"]
        self.assertEqual(sorted(there), [path.name for path in package_files()])
        self.assertIn("__init__.py", there)
        self.assertLessEqual(len(there), 100)
        for name in there:
            self.assertTrue(re.fullmatch(r"[a-z][a-z0-9_]*\.py|__init__\.py|__main__\.py", name), name)
            self.assertNotIn(name[:-3], dir(builtins))

    def test_sizes(self):
        for path in package_files():
            lines = path.read_text(encoding="utf-8").split("\n")
            self.assertLessEqual(len(lines) - 1, 399, path.name)
            self.assertLessEqual(max(len(line) for line in lines), 120, path.name)
        for name, node in nodes(ast.FunctionDef):
            self.assertLessEqual(node.end_lineno - node.lineno + 1, 40, (name, node.name))

    def test_characters(self):
        for path in package_files():
            for sign in set(path.read_bytes()):
                self.assertTrue(sign == 10 or 32 <= sign <= 126, (path.name, sign))


class LanguageTest(unittest.TestCase):
    def test_module_level(self):
        allowed = (ast.FunctionDef, ast.ClassDef, ast.Assign, ast.ImportFrom)
        for name, tree in trees():
            self.assertTrue(ast.get_docstring(tree), name)
            for node in tree.body[1:]:
                self.assertIsInstance(node, allowed, name)
                if isinstance(node, ast.Assign):
                    ast.literal_eval(node.value)
            bound = defined(tree)
            bound += [part.name for node in tree.body if isinstance(node, ast.ImportFrom) for part in node.names]
            self.assertEqual(len(bound), len(set(bound)), name)

    def test_imports(self):
        there = {name[:-3]: defined(tree) for name, tree in trees()}
        leads = {}
        for name, node in nodes((ast.Import, ast.ImportFrom)):
            self.assertIsInstance(node, ast.ImportFrom, name)
            names = [part.name for part in node.names]
            self.assertTrue(all(part.asname is None for part in node.names), name)
            if node.module in LIBRARY:
                self.assertLessEqual(set(names), set(LIBRARY[node.module]))
                continue
            folder, file = node.module.split(".")
            self.assertEqual((folder, node.level), ("lamplight", 0))
            self.assertLessEqual(set(names), set(there[file]), name)
            leads.setdefault(name[:-3], []).append(file)
        for start in leads:
            seen = []
            ahead = list(leads[start])
            while ahead:
                file = ahead.pop()
                self.assertNotEqual(file, start, "files that import one another")
                ahead += [other for other in leads.get(file, []) if other not in seen]
                seen.append(file)

    def test_each_import_is_used(self):
        for name, tree in trees():
            used = {node.id for node in ast.walk(tree) if isinstance(node, ast.Name)}
            for node in tree.body:
                if isinstance(node, ast.ImportFrom):
                    self.assertLessEqual({part.name for part in node.names}, used, name)

    def test_no_barred_statements_and_expressions(self):
        barred = (ast.Global, ast.AsyncFunctionDef, ast.Await, ast.AsyncFor, ast.AsyncWith, ast.Div, ast.GeneratorExp,
                  ast.SetComp, ast.Yield, ast.YieldFrom)
        self.assertEqual(nodes(barred), [])
        for name, node in nodes((ast.FunctionDef, ast.ClassDef)):
            self.assertEqual(node.decorator_list, [], name)
        for name, node in nodes(ast.Constant):
            self.assertNotIsInstance(node.value, (float, complex, bytes), name)
        for name, node in nodes(ast.Compare):
            for operator, side in zip(node.ops, node.comparators):
                if isinstance(operator, (ast.Is, ast.IsNot)):
                    self.assertIn(getattr(side, "value", "no literal"), (None, True, False), name)

    def test_builtins(self):
        for name, node in nodes(ast.Name):
            if node.id in dir(builtins):
                self.assertIn(node.id, BUILTINS, name)

    def test_methods(self):
        own = {node.name for _, node in nodes(ast.FunctionDef)}
        for name, node in nodes(ast.Call):
            if isinstance(node.func, ast.Attribute):
                self.assertIn(node.func.attr, METHODS + sorted(own), name)
                self.assertNotEqual(node.func.attr, "sort", name)
                self.assertEqual(node.keywords, [], name)

    def test_names(self):
        for name, tree in trees():
            kinds = (ast.FunctionDef, ast.ClassDef)
            names = bound_names(tree) + [node.name for node in ast.walk(tree) if isinstance(node, kinds)]
            names += [node.attr for node in ast.walk(tree) if isinstance(node, ast.Attribute)]
            for one in names:
                self.assertTrue(re.fullmatch(r"_?[A-Za-z][A-Za-z0-9_]*|_", one) or one in DOUBLE_UNDERSCORES, one)
                self.assertNotIn(one, BARRED_NAMES, name)
                self.assertFalse(one.startswith(("_wall", "_pe_", "_law_", "_lay_", "_enum_", "_stub_")), one)

    def test_no_name_of_a_builtin_or_an_import_is_given_again(self):
        for name, tree in trees():
            taken = [part.name for node in tree.body if isinstance(node, ast.ImportFrom) for part in node.names]
            taken += [node.name for node in tree.body if isinstance(node, ast.ClassDef)]
            for one in bound_names(tree):
                self.assertNotIn(one, taken, name)
                self.assertNotIn(one, dir(builtins), name)
            for one in defined(tree):
                self.assertNotIn(one, dir(builtins), name)

    def test_words(self):
        for name, tree in trees():
            texts = [node.value for node in ast.walk(tree)
                     if isinstance(node, ast.Constant) and isinstance(node.value, str) and node not in docstrings(tree)]
            for text in texts + bound_names(tree):
                self.assertNotIn("%", text, name)
                self.assertEqual([word for word in re.findall(r"\w+", text) if word in BARRED_WORDS], [], name)
                self.assertNotIn("__", text, name)
            for text in [node.value for node in docstrings(tree)]:
                self.assertNotIn("%", text, name)

    def test_errors_are_made_where_they_are_raised(self):
        for name, node in nodes(ast.Raise):
            self.assertIsInstance(node.exc, ast.Call, name)
            self.assertEqual(node.exc.keywords, [], name)

    def test_nothing_is_caught(self):
        """A try has a finally alone, which puts back what its function had in variables."""
        for name, node in nodes(ast.Try):
            self.assertEqual((node.handlers, node.orelse), ([], []), name)
            for row in node.finalbody:
                self.assertIsInstance(row, ast.Assign, name)
                self.assertIsInstance(row.value, ast.Name, name)


if __name__ == "__main__":
    unittest.main()
