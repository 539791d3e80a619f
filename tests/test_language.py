"""Those rules of LANGUAGE.md that can be read off the files one by one."""

import ast
import builtins
import re
import unittest
import warnings
from pathlib import Path

FOLDER = Path(__file__).resolve().parent.parent / "turnedvalleys"
FILES = sorted(FOLDER.glob("*.py"))

LIBRARY = {"math": {"gcd", "lcm", "isqrt", "comb", "perm", "factorial"}}
BUILTINS = set("""len range enumerate zip min max sum abs sorted reversed int str bool list tuple dict set isinstance
ord repr any all divmod iter ValueError""".split())
# Names that no file has.
BARRED = set("""register mro elements open input law version_info with_traceback add_note attrgetter breakpoint builtins
compile copyright credits delattr dir eval exec exit gc getattr globals hasattr help id importlib license locals
methodcaller os quit setattr super sys vars print map filter next""".split())
# Words that stand in no name and no text, but for docstrings.
WORDS = set("""type typing typing_extensions enum Enum IntEnum StrEnum Flag IntFlag Generic Protocol ABC ABCMeta
namedtuple NamedTuple TypedDict TYPE_CHECKING abstractmethod dataclass overload contextmanager""".split())
METHODS = set("""append clear copy count endswith extend find get index insert isalnum isalpha isdigit islower isspace
isupper items join keys ljust lower lstrip partition pop remove replace reverse rfind rjust rpartition rsplit rstrip
setdefault split splitlines startswith strip update upper values zfill bit_length add discard""".split())
PLAIN_NAME = re.compile(r"_?[A-Za-z][A-Za-z0-9_]*")
DOUBLE = {"__init__", "__contains__", "__iter__"}
MODULE_LEVEL = (ast.ImportFrom, ast.FunctionDef, ast.ClassDef, ast.Assign)
REFUSED = (ast.AsyncFunctionDef, ast.Await, ast.Global, ast.Div, ast.JoinedStr, ast.Import, ast.Yield, ast.YieldFrom,
           ast.GeneratorExp, ast.MatMult)


def own_names(tree):
    """The names that a file binds, those of parameters and variables with them."""
    found = set()
    for node in ast.walk(tree):
        if isinstance(node, (ast.FunctionDef, ast.ClassDef)):
            found.add(node.name)
        elif isinstance(node, ast.arg):
            found.add(node.arg)
        elif isinstance(node, ast.Name) and isinstance(node.ctx, ast.Store):
            found.add(node.id)
        elif isinstance(node, ast.alias):
            found.add(node.asname or node.name)
    return found


def all_names(tree):
    """All names in a file, those of attributes and keywords with them."""
    found = own_names(tree)
    for node in ast.walk(tree):
        if isinstance(node, ast.Name):
            found.add(node.id)
        elif isinstance(node, ast.Attribute):
            found.add(node.attr)
        elif isinstance(node, ast.keyword):
            found.add(node.arg)
    return found


def texts_of(tree):
    """All texts in a file but docstrings."""
    docstrings = [node.value for node in ast.walk(tree) if isinstance(node, ast.Expr)]
    return [node.value for node in ast.walk(tree)
            if isinstance(node, ast.Constant) and isinstance(node.value, str) and node not in docstrings]


def own_methods():
    found = set()
    for file in FILES:
        for node in ast.walk(ast.parse(file.read_text())):
            if isinstance(node, ast.ClassDef):
                found |= {part.name for part in node.body if isinstance(part, ast.FunctionDef)}
    return found


class TestLanguage(unittest.TestCase):
    def trees(self):
        return [(file, ast.parse(file.read_text())) for file in FILES]

    def test_the_folder_holds_python_files_alone(self):
        found = [path.name for path in FOLDER.iterdir() if path.name != "__pycache__"]
        self.assertEqual(sorted(found), [file.name for file in FILES])
        self.assertLessEqual(len(FILES), 100)
        self.assertEqual([name for name in found if name != name.lower()], [])

    def test_characters_and_sizes(self):
        for file, tree in self.trees():
            text = file.read_text()
            self.assertTrue(all(c == "\n" or " " <= c <= "~" for c in text))
            self.assertLess(len(text.splitlines()), 400)
            self.assertLessEqual(max(len(line) for line in text.splitlines()), 120)
            for node in ast.walk(tree):
                if isinstance(node, ast.FunctionDef):
                    self.assertLessEqual(node.end_lineno - node.lineno + 1, 40, node.name)

    def test_no_warnings(self):
        for file, _ in self.trees():
            with warnings.catch_warnings():
                warnings.simplefilter("error")
                compile(file.read_text(), str(file), "exec")

    def test_module_level_and_imports(self):
        for file, tree in self.trees():
            for i, node in enumerate(tree.body):
                docstring = i == 0 and isinstance(node, ast.Expr) and isinstance(node.value, ast.Constant)
                self.assertTrue(docstring or isinstance(node, MODULE_LEVEL), node.lineno)
                if isinstance(node, ast.ImportFrom):
                    self.check_import(node)

    def check_import(self, node):
        self.assertEqual(node.level, 0)
        names = {alias.name for alias in node.names}
        self.assertTrue(all(alias.asname is None for alias in node.names))
        if node.module in LIBRARY:
            self.assertLessEqual(names, LIBRARY[node.module])
            return
        package, name = node.module.split(".")
        self.assertEqual(package, "turnedvalleys")
        there = ast.parse((FOLDER / (name + ".py")).read_text())
        self.assertLessEqual(names, {part.name for part in there.body if hasattr(part, "name")})

    def test_no_refused_statement_and_no_decorator(self):
        for _, tree in self.trees():
            for node in ast.walk(tree):
                self.assertNotIsInstance(node, REFUSED)
                self.assertEqual(getattr(node, "decorator_list", []), [])

    def test_builtins(self):
        for file, tree in self.trees():
            names = own_names(tree)
            self.assertEqual({name for name in names if hasattr(builtins, name)} - {"__init__"}, set(), file.name)
            for node in ast.walk(tree):
                if isinstance(node, ast.Name) and node.id not in names:
                    self.assertIn(node.id, BUILTINS)

    def test_no_local_name_is_that_of_an_import_or_a_class(self):
        for _, tree in self.trees():
            taken = {alias.name for node in tree.body if isinstance(node, ast.ImportFrom) for alias in node.names}
            taken |= {node.name for node in tree.body if isinstance(node, ast.ClassDef)}
            for node in ast.walk(tree):
                if isinstance(node, ast.arg):
                    self.assertNotIn(node.arg, taken)
                elif isinstance(node, ast.Name) and isinstance(node.ctx, ast.Store):
                    self.assertNotIn(node.id, taken)

    def test_names(self):
        for file, tree in self.trees():
            for name in all_names(tree):
                with self.subTest(file.name, name=name):
                    self.assertTrue(name in DOUBLE or PLAIN_NAME.fullmatch(name) or name == "_")
                    self.assertNotIn(name, BARRED | WORDS)

    def test_texts(self):
        for file, tree in self.trees():
            for text in texts_of(tree):
                with self.subTest(file.name, text=text):
                    self.assertNotIn("%", text)
                    self.assertEqual(WORDS & set(re.findall(r"\w+", text)), set())

    def test_tables_are_only_looked_up(self):
        for file, tree in self.trees():
            tables = {node.targets[0].id for node in tree.body
                      if isinstance(node, ast.Assign) and isinstance(node.value, (ast.Dict, ast.List))}
            looked_up = []
            for node in ast.walk(tree):
                if isinstance(node, ast.Subscript):
                    looked_up.append(node.value)
                elif isinstance(node, ast.Compare):
                    looked_up += node.comparators
            for node in ast.walk(tree):
                if isinstance(node, ast.Name) and node.id in tables and isinstance(node.ctx, ast.Load):
                    self.assertTrue(any(node is other for other in looked_up), (file.name, node.lineno))

    def test_methods(self):
        own = own_methods()
        for _, tree in self.trees():
            for node in ast.walk(tree):
                if isinstance(node, ast.Call) and isinstance(node.func, ast.Attribute):
                    self.assertIn(node.func.attr, METHODS | own)

    def test_imports_make_no_circle(self):
        needs = {}
        for file, tree in self.trees():
            modules = [node.module for node in tree.body if isinstance(node, ast.ImportFrom)]
            needs["turnedvalleys." + file.stem] = [name for name in modules if name not in LIBRARY]
        done = set()
        while len(done) < len(needs):
            ready = [name for name in needs if name not in done and done.issuperset(needs[name])]
            self.assertNotEqual(ready, [])
            done.update(ready)


if __name__ == "__main__":
    unittest.main()
