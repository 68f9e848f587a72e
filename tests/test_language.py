"""Rules of the language of the package that can be seen in its files one by one."""

import ast
import builtins
import pathlib
import unittest

PACKAGE = pathlib.Path(__file__).parent.parent / "glidenames"
FILES = sorted(PACKAGE.rglob("*.py"))
LIBRARY = {"math": ("gcd", "lcm"), "itertools": ("combinations",)}
ALLOWED = """
    len range enumerate zip min max sum abs sorted reversed int str bool bytes list tuple dict set
    isinstance ord repr any all divmod pow iter next map getattr hasattr setattr super
    Exception ValueError TypeError KeyError IndexError LookupError ZeroDivisionError
    ArithmeticError OverflowError RuntimeError NotImplementedError AttributeError StopIteration
    NotImplemented
""".split()
BARRED = (
    ast.AsyncFor, ast.AsyncFunctionDef, ast.AsyncWith, ast.Await, ast.Div, ast.Global, ast.Import,
    ast.MatMult,
)
NO_NAMES = """
    register mro elements open input law version_info with_traceback add_note attrgetter breakpoint
    builtins compile copyright credits delattr dir eval exec exit gc getattr globals hasattr help id
    importlib license locals methodcaller os quit setattr super type vars sys
""".split() + dir(builtins)

METHODS = """
    append clear copy count endswith extend find get index insert isalnum isalpha isdigit islower isspace
    isupper items join keys ljust lower lstrip partition pop remove replace reverse rfind rjust rpartition
    rsplit rstrip setdefault split splitlines startswith strip update upper values zfill bit_length
""".split()
# What is iterated at once, and by which calls; also by the head of a loop or a comprehension.
AT_ONCE = ("range", "zip", "enumerate", "reversed", "items", "keys", "values")
GOING_OVER = (
    "list", "tuple", "dict", "sorted", "sum", "any", "all", "enumerate", "zip", "min", "max", "reversed", "len",
)
NO_WORDS = """
    type typing typing_extensions enum Enum IntEnum StrEnum Flag IntFlag Generic Protocol ABC ABCMeta
    namedtuple NamedTuple TypedDict TYPE_CHECKING abstractmethod
""".split()


def tree(file):
    return ast.parse(file.read_text(encoding="utf-8"))


def imports(file):
    """The triples of what a file imports: the module, the name, the name it gives it."""
    found = []
    for node in ast.walk(tree(file)):
        if isinstance(node, ast.ImportFrom):
            found.extend([(node.module, alias.name, alias.asname) for alias in node.names])
    return found


def defined(file):
    """The names that the module level of a file defines itself."""
    names = []
    for node in tree(file).body:
        if isinstance(node, (ast.FunctionDef, ast.ClassDef)):
            names.append(node.name)
        elif isinstance(node, ast.Assign):
            names.extend([target.id for target in node.targets])
    return names


def own_methods():
    """The names of the methods of all classes of the package."""
    classes = [node for file in FILES for node in ast.walk(tree(file)) if isinstance(node, ast.ClassDef)]
    return [inner.name for node in classes for inner in node.body if isinstance(inner, ast.FunctionDef)]


def called(node):
    """The bare name of what is called, None for all that is no call."""
    if not isinstance(node, ast.Call):
        return None
    return node.func.id if isinstance(node.func, ast.Name) else node.func.attr


def inner_names(node):
    """The names that a function binds: parameters and variables."""
    names = [inner.arg for inner in ast.walk(node) if isinstance(inner, ast.arg)]
    for inner in ast.walk(node):
        if isinstance(inner, ast.Name) and not isinstance(inner.ctx, ast.Load):
            names.append(inner.id)
    return names


class TestLanguage(unittest.TestCase):
    def test_one_folder_of_plain_files(self):
        self.assertIn("__init__.py", [file.name for file in FILES])
        for path in PACKAGE.rglob("*"):
            if "__pycache__" not in path.parts:
                self.assertRegex(path.name, r"\A[a-z0-9_]+\.py\Z")

    def test_sizes_and_signs(self):
        for file in FILES:
            with self.subTest(file=file.name):
                text = file.read_text(encoding="ascii")
                self.assertTrue(all([sign == "\n" or " " <= sign <= "~" for sign in text]))
                self.assertLessEqual(len(text.splitlines()), 399)
                self.assertLessEqual(max([len(line) for line in text.splitlines()]), 120)
                for node in ast.walk(tree(file)):
                    if isinstance(node, ast.FunctionDef):
                        self.assertLessEqual(node.end_lineno - node.lineno + 1, 40)

    def test_each_import_names_the_file_that_defines(self):
        for file in FILES:
            for module, name, other in imports(file):
                with self.subTest(file=file.name, name=name):
                    self.assertIsNone(other)
                    if module in LIBRARY:
                        self.assertIn(name, LIBRARY[module])
                    else:
                        folder, _, stem = module.partition(".")
                        self.assertEqual(folder, PACKAGE.name)
                        self.assertIn(name, defined(PACKAGE / (stem + ".py")))

    def test_no_two_files_import_from_each_other(self):
        left = {}
        for file in FILES:
            left[file.stem] = {module.partition(".")[2] for module, _, _ in imports(file)}
        while left:
            ends = [stem for stem in left if not left[stem] & set(left)]
            self.assertNotEqual(ends, [], sorted(left))
            left = {stem: left[stem] for stem in left if stem not in ends}

    def test_statements_and_values(self):
        for file in FILES:
            for node in ast.walk(tree(file)):
                with self.subTest(file=file.name, line=getattr(node, "lineno", 0)):
                    self.assertNotIsInstance(node, BARRED)
                    if isinstance(node, ast.Constant):
                        self.assertNotIsInstance(node.value, (float, complex))
                        self.assertFalse(isinstance(node.value, str) and "%" in node.value)

    def test_names(self):
        for file in FILES:
            taken = [name for _, name, _ in imports(file)]
            for node in ast.walk(tree(file)):
                with self.subTest(file=file.name, line=getattr(node, "lineno", 0)):
                    if isinstance(node, ast.Name) and node.id in dir(builtins):
                        self.assertIn(node.id, ALLOWED)
                    if isinstance(node, (ast.FunctionDef, ast.ClassDef)):
                        self.assertNotIn(node.name, NO_NAMES)
                        self.assertEqual(node.decorator_list, [])
                    if isinstance(node, ast.FunctionDef):
                        self.assertEqual([name for name in inner_names(node) if name in NO_NAMES + taken], [])

    def test_methods_and_words(self):
        allowed = METHODS + own_methods()
        for file in FILES:
            for node in ast.walk(tree(file)):
                with self.subTest(file=file.name, line=getattr(node, "lineno", 0)):
                    if isinstance(node, ast.Call) and isinstance(node.func, ast.Attribute):
                        self.assertIn(node.func.attr, allowed)
                    if isinstance(node, ast.Name):
                        self.assertNotIn(node.id, NO_WORDS)

    def test_what_is_iterated_at_once(self):
        for file in FILES:
            for node in ast.walk(tree(file)):
                for inner in ast.iter_child_nodes(node):
                    if called(inner) in AT_ONCE:
                        with self.subTest(file=file.name, line=inner.lineno):
                            heads = isinstance(node, (ast.For, ast.comprehension)) and inner is node.iter
                            self.assertTrue(heads or called(node) in GOING_OVER)

    def test_stars_and_what_is_asked_by_is(self):
        for file in FILES:
            for node in ast.walk(tree(file)):
                with self.subTest(file=file.name, line=getattr(node, "lineno", 0)):
                    self.assertNotIsInstance(node, ast.Lambda)
                    if isinstance(node, ast.Call):
                        stars = [inner.value for inner in node.args if isinstance(inner, ast.Starred)]
                        self.assertTrue(all([isinstance(inner, ast.Name) for inner in stars]))
                    if isinstance(node, ast.Compare) and isinstance(node.ops[0], (ast.Is, ast.IsNot)):
                        self.assertIsNone(node.comparators[0].value)
