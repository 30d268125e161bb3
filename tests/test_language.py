"""The rules of the language, as far as they can be seen in the files of the package by simple means."""

import ast
import builtins
import re
import unittest
from pathlib import Path

PACKAGE = Path(__file__).parent.parent / "bentplane"
LIBRARY = {
    "heapq": "heappush heappop heapify heapreplace heappushpop", "math": "gcd lcm isqrt comb perm factorial",
    "itertools": "product combinations permutations chain accumulate pairwise islice zip_longest",
    "collections": "defaultdict",
}
BUILTINS = set(
    """len range enumerate zip min max sum abs sorted reversed int str bool bytes list tuple dict set frozenset isinstance
    ord repr any all divmod pow getattr hasattr setattr iter next map super property staticmethod classmethod Exception
    ValueError TypeError KeyError IndexError LookupError ZeroDivisionError ArithmeticError OverflowError RuntimeError
    NotImplementedError AttributeError StopIteration NotImplemented object float""".split()
)
METHODS = set(
    """append clear copy count endswith extend find get index insert isalnum isalpha isdigit islower isspace isupper items
    join keys ljust lower lstrip partition pop remove replace reverse rfind rjust rpartition rsplit rstrip setdefault split
    splitlines startswith strip update upper values zfill bit_length sort add discard title capitalize swapcase casefold
    center removeprefix removesuffix rindex isascii isdecimal isnumeric isidentifier isprintable __init__""".split()
)
BARRED_NAMES = set(
    """register mro elements open input law version_info with_traceback add_note attrgetter breakpoint builtins compile
    copyright credits delattr dir eval exec exit gc globals help id importlib license locals methodcaller os quit
    type vars sys chr print""".split()
)
BARRED_WORDS = set(
    """type typing typing_extensions enum Enum IntEnum StrEnum Flag IntFlag Generic Protocol ABC ABCMeta namedtuple
    NamedTuple TypedDict TYPE_CHECKING abstractmethod dataclass overload contextmanager""".split()
)
DUNDERS = re.compile(r"__(init|eq|repr|str|len|enter|exit|call|iter|lt|le|gt|ge|ne|contains|getitem|setitem|bool)__")
BARRED_NODES = (ast.Global, ast.AsyncFunctionDef, ast.AsyncFor, ast.AsyncWith, ast.Await, ast.Div, ast.MatMult)


def files():
    return sorted(PACKAGE.glob("**/*.py"))


def tree(path):
    return ast.parse(path.read_text())


def functions(made):
    return [node for node in ast.walk(made) if isinstance(node, ast.FunctionDef)]


def imported(made):
    """The names that a file imports, with the modules that they come from."""
    found = {}
    for node in made.body:
        if isinstance(node, ast.ImportFrom):
            for part in node.names:
                found[part.asname or part.name] = node.module
    return found


def defined(made):
    """The names that a file defines at module level, with repeats."""
    found = []
    for node in made.body:
        if isinstance(node, (ast.FunctionDef, ast.ClassDef)):
            found.append(node.name)
        elif isinstance(node, ast.Assign):
            found.extend(part.id for part in node.targets)
    return found


def bound_inside(function):
    """The parameters and local variables of a function."""
    found = [part.arg for part in ast.walk(function) if isinstance(part, ast.arg)]
    for node in ast.walk(function):
        if isinstance(node, ast.Name) and isinstance(node.ctx, ast.Store):
            found.append(node.id)
        elif isinstance(node, ast.FunctionDef) and node is not function:
            found.append(node.name)
    return found


def is_plain(node):
    """Whether a value may stand at module level."""
    if isinstance(node, ast.UnaryOp):
        return isinstance(node.op, ast.USub) and is_plain(node.operand)
    if isinstance(node, (ast.Tuple, ast.List)):
        return all(is_plain(part) for part in node.elts)
    if isinstance(node, ast.Dict):
        return all(part is not None and is_plain(part) for part in [*node.keys, *node.values])
    return isinstance(node, (ast.Constant, ast.Name))


class Files(unittest.TestCase):
    def test_folder(self):
        for path in PACKAGE.glob("**/*"):
            if "__pycache__" in path.parts:
                continue
            self.assertRegex(path.name, r"^([a-z][a-z0-9_]*|__init__|__main__)\.py$")
        self.assertTrue((PACKAGE / "__init__.py").exists())

    def test_characters_and_sizes(self):
        for path in files():
            with self.subTest(path=path.name):
                text = path.read_text(encoding="utf-8")
                self.assertEqual([c for c in text if c != "\n" and not " " <= c <= "~"], [])
                lines = text.splitlines()
                self.assertLessEqual(len(lines), 399)
                self.assertEqual([line for line in lines if len(line) > 120], [])
                for function in functions(tree(path)):
                    self.assertLessEqual(function.end_lineno - function.lineno + 1, 40, function.name)

    def test_module_level(self):
        for path in files():
            for node in tree(path).body:
                with self.subTest(path=path.name, line=node.lineno):
                    if isinstance(node, ast.Assign):
                        self.assertEqual(len(node.targets), 1)
                        self.assertIsInstance(node.targets[0], ast.Name)
                        self.assertTrue(is_plain(node.value))
                    elif isinstance(node, ast.Expr):
                        self.assertIsInstance(node.value, ast.Constant)
                    else:
                        self.assertIsInstance(node, (ast.ImportFrom, ast.FunctionDef, ast.ClassDef))


class Imports(unittest.TestCase):
    def test_where_names_come_from(self):
        for path in files():
            for name, module in imported(tree(path)).items():
                with self.subTest(path=path.name, name=name):
                    if module in LIBRARY:
                        self.assertIn(name, LIBRARY[module].split())
                        continue
                    self.assertTrue(module.startswith("bentplane."))
                    self.assertIn(name, defined(tree(PACKAGE / (module.split(".")[1] + ".py"))))

    def test_form_and_use(self):
        for path in files():
            made = tree(path)
            for node in ast.walk(made):
                self.assertNotIsInstance(node, ast.Import)
                if isinstance(node, ast.ImportFrom):
                    self.assertEqual([node.level, [part.asname for part in node.names if part.asname]], [0, []])
                    self.assertIn(node, made.body)
            used = {node.id for node in ast.walk(made) if isinstance(node, ast.Name)}
            self.assertEqual([name for name in imported(made) if name not in used], [], path.name)

    def test_no_circles(self):
        after = {}
        for path in files():
            modules = set(imported(tree(path)).values())
            after[path.stem] = {module.split(".")[1] for module in modules if module.startswith("bentplane.")}
        while after:
            ends = [name for name in after if not after[name] & set(after)]
            self.assertNotEqual(ends, [], sorted(after))
            for name in ends:
                del after[name]


class Names(unittest.TestCase):
    def test_bound_once(self):
        for path in files():
            made = tree(path)
            found = defined(made) + list(imported(made))
            self.assertEqual(sorted(found), sorted(set(found)), path.name)

    def test_no_name_has_another_meaning(self):
        for path in files():
            made = tree(path)
            taken = set(imported(made)) | set(dir(builtins)) | BARRED_NAMES
            taken |= {node.name for node in made.body if isinstance(node, ast.ClassDef)}
            for function in functions(made):
                self.assertEqual(set(bound_inside(function)) & taken, set(), f"{path.name} {function.name}")
            self.assertEqual(set(defined(made)) & (set(dir(builtins)) | BARRED_NAMES), set(), path.name)

    def test_barred_names_and_underscores(self):
        for path in files():
            for node in ast.walk(tree(path)):
                name = getattr(node, "id", getattr(node, "attr", getattr(node, "name", getattr(node, "arg", None))))
                if not isinstance(name, str):
                    continue
                with self.subTest(path=path.name, name=name):
                    self.assertNotIn(name, BARRED_NAMES)
                    self.assertRegex(name, r"^_?[A-Za-z][A-Za-z0-9_]*$|^_$|^__[a-z]+__$|^[a-z_.]+$")
                    if name.startswith("__"):
                        self.assertRegex(name, DUNDERS)

    def test_underscore_is_never_read(self):
        for path in files():
            read = [node for node in ast.walk(tree(path)) if isinstance(node, ast.Name) and node.id == "_"]
            self.assertEqual([node.lineno for node in read if isinstance(node.ctx, ast.Load)], [], path.name)

    def test_builtins(self):
        for path in files():
            made = tree(path)
            known = set(defined(made)) | set(imported(made)) | BUILTINS
            for function in functions(made):
                known |= set(bound_inside(function))
            used = {node.id for node in ast.walk(made) if isinstance(node, ast.Name)}
            self.assertEqual(used - known, set(), path.name)

    def test_methods(self):
        own = set()
        for path in files():
            for node in ast.walk(tree(path)):
                if isinstance(node, ast.ClassDef):
                    own |= {part.name for part in node.body if isinstance(part, ast.FunctionDef)}
        for path in files():
            for node in ast.walk(tree(path)):
                if isinstance(node, ast.Call) and isinstance(node.func, ast.Attribute):
                    self.assertIn(node.func.attr, own | METHODS, path.name)


class Statements(unittest.TestCase):
    def test_barred_nodes(self):
        for path in files():
            for node in ast.walk(tree(path)):
                with self.subTest(path=path.name, line=getattr(node, "lineno", 0)):
                    self.assertNotIsInstance(node, BARRED_NODES)
                    if isinstance(node, ast.Constant):
                        self.assertNotIsInstance(node.value, (float, complex, bytes))

    def test_exponents(self):
        for path in files():
            for node in ast.walk(tree(path)):
                if isinstance(node, (ast.BinOp, ast.AugAssign)) and isinstance(node.op, ast.Pow):
                    self.assertIsInstance(getattr(node, "right", None), ast.Constant, path.name)

    def test_is(self):
        for path in files():
            for node in ast.walk(tree(path)):
                if isinstance(node, ast.Compare):
                    for op, right in zip(node.ops, node.comparators):
                        if isinstance(op, (ast.Is, ast.IsNot)):
                            self.assertIsInstance(right, ast.Constant, path.name)

    def test_views_are_iterated_at_once(self):
        lazy = ("zip", "enumerate", "reversed")
        for path in files():
            for node in ast.walk(tree(path)):
                if isinstance(node, (ast.Return, ast.Assign)) and isinstance(node.value, ast.Call):
                    called = node.value.func
                    if isinstance(node, ast.Return):
                        self.assertNotIn(getattr(called, "id", getattr(called, "attr", "")), (*lazy, "items", "keys"))

    def test_strings(self):
        for path in files():
            for node in ast.walk(tree(path)):
                if isinstance(node, ast.Constant) and isinstance(node.value, str):
                    self.assertNotIn("%", node.value)
                    self.assertFalse(node.value.startswith("__") and node.value.endswith("__"))

    def test_barred_words(self):
        for path in files():
            made = tree(path)
            notes = [ast.get_docstring(node, clean=False) for node in [made, *ast.walk(made)] if hasattr(node, "body")
                     and isinstance(node, (ast.Module, ast.FunctionDef, ast.ClassDef))]
            words = set()
            for node in ast.walk(made):
                if isinstance(node, ast.Name):
                    words.add(node.id)
                elif isinstance(node, ast.Attribute):
                    words.add(node.attr)
                elif isinstance(node, ast.Constant) and isinstance(node.value, str) and node.value not in notes:
                    words |= set(re.findall(r"\w+", node.value))
            self.assertEqual(words & BARRED_WORDS, set(), path.name)

    def test_no_decorators_but_of_methods(self):
        allowed = ("property", "staticmethod", "classmethod")
        for path in files():
            for node in ast.walk(tree(path)):
                for part in getattr(node, "decorator_list", []):
                    self.assertIn(getattr(part, "id", getattr(part, "attr", None)), (*allowed, "setter"), path.name)


if __name__ == "__main__":
    unittest.main()
