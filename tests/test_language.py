import ast
import pathlib
import tempfile
import unittest
import warnings

from tests import language

ROOT = pathlib.Path(__file__).resolve().parent.parent
PACKAGE = ROOT / "hookcarts"


def names_defined(tree):
    """Return the names that a file defines at module level, those that it imports left out."""
    found = [part.name for part in tree.body if isinstance(part, (ast.FunctionDef, ast.ClassDef))]
    return found + [part.targets[0].id for part in tree.body if isinstance(part, ast.Assign)]


def modules_imported(tree):
    """Return the names of the modules from which a file imports."""
    return [part.module for part in tree.body if isinstance(part, ast.ImportFrom)]


class PackageTest(unittest.TestCase):
    """The files of the package keep to what a script can see of LANGUAGE.md."""

    @classmethod
    def setUpClass(cls):
        cls.data = {f"hookcarts.{path.stem}": path.read_bytes() for path in sorted(PACKAGE.glob("*.py"))}
        cls.trees = {name: ast.parse(data) for name, data in cls.data.items()}

    def assert_none(self, check, *more):
        for name, tree in self.trees.items():
            self.assertEqual(check(tree, *more), [], name)

    def test_folder(self):
        self.assertEqual(language.folder_complaints(PACKAGE), [])

    def test_text(self):
        for name, data in self.data.items():
            self.assertEqual(language.text_complaints(data), [], name)

    def test_functions(self):
        self.assert_none(language.function_complaints)

    def test_module_level(self):
        self.assert_none(language.module_complaints)

    def test_imports(self):
        self.assert_none(language.import_complaints, {name: names_defined(tree) for name, tree in self.trees.items()})

    def test_circles(self):
        imported = {name: modules_imported(tree) for name, tree in self.trees.items()}
        self.assertEqual(language.circle_complaints(imported), [])

    def test_values(self):
        self.assert_none(language.value_complaints)

    def test_names(self):
        self.assert_none(language.name_complaints)

    def test_methods(self):
        self.assert_none(language.method_complaints, language.own_names(list(self.trees.values())))

    def test_sets(self):
        self.assert_none(language.set_complaints)

    def test_walks(self):
        self.assert_none(language.walk_complaints)

    def test_shadows(self):
        self.assert_none(language.shadow_complaints)

    def test_prefixes(self):
        self.assert_none(language.prefix_complaints)

    def test_lambdas(self):
        self.assert_none(language.lambda_complaints)

    def test_stars(self):
        self.assert_none(language.star_complaints)

    def test_generators(self):
        names = language.generator_names(list(self.trees.values()))
        self.assertEqual(names, {"rows_of"})
        self.assert_none(language.generator_complaints, names)

    def test_python_gives_no_warning(self):
        with warnings.catch_warnings():
            warnings.simplefilter("error")
            for name, data in self.data.items():
                compile(data, name, "exec")


class ChecksTest(unittest.TestCase):
    """The checks find what breaks a rule."""

    def test_folder(self):
        with tempfile.TemporaryDirectory() as name:
            folder = pathlib.Path(name)
            (folder / "__init__.py").touch()
            (folder / "rows.py").touch()
            self.assertEqual(language.folder_complaints(folder), [])
            (folder / "notes.txt").touch()
            (folder / "Rows.py").touch()
            self.assertEqual(len(language.folder_complaints(folder)), 2)

    def test_text(self):
        self.assertEqual(language.text_complaints(b"x = 1\n" * 399), [])
        self.assertEqual(language.text_complaints(b"#" * 120 + b"\n"), [])
        for data in [b"x = 1\n" * 400, b"#" * 121, b"if x:\n\ty = 1\n", "# \u00e4\n".encode(), b"x = 1\r\n", b"# \x7f"]:
            self.assertNotEqual(language.text_complaints(data), [], data[:20])

    def test_function_size(self):
        body = "def f():\n" + "    x = 1\n" * 39
        self.assertEqual(language.function_complaints(ast.parse(body)), [])
        self.assertNotEqual(language.function_complaints(ast.parse(body + "    x = 1\n")), [])
        inner = "class C:\n    def f(self):\n" + "        x = 1\n" * 40
        self.assertNotEqual(language.function_complaints(ast.parse(inner)), [])

    def test_module_level(self):
        for text in ["x = f()", "x, y = 1, 2", "for x in []:\n    pass", "import math", "x = 1\nx += 1"]:
            self.assertNotEqual(language.module_complaints(ast.parse(text)), [], text)

    def test_imports(self):
        defined = {"hookcarts.rows": ["is_row"]}
        self.assertEqual(language.import_complaints(ast.parse("from hookcarts.rows import is_row"), defined), [])
        for text in ["from hookcarts.rows import is_step", "from .rows import is_row", "from random import choice",
                     "from hookcarts.rows import is_row as row", "def f():\n    import math"]:
            self.assertNotEqual(language.import_complaints(ast.parse(text), defined), [], text)
        self.assertEqual(language.circle_complaints({"a": ["b"], "b": []}), [])
        self.assertNotEqual(language.circle_complaints({"a": ["b"], "b": ["c"], "c": ["a"], "d": []}), [])

    def test_values(self):
        for text in ["x = 1.5", "x = 1 / 2", "x = 2 ** n", "x = 'a%'", "x = any(y for y in z)", "global x",
                     "try:\n    pass\nexcept Exception:\n    pass", "try:\n    pass\nexcept:\n    pass"]:
            self.assertNotEqual(language.value_complaints(ast.parse(text)), [], text)

    def test_names(self):
        for text in ["x = print(1)", "id = 1", "def f(type):\n    pass", "for next in x:\n    pass", "__a = 1",
                     "def hash():\n    pass", "y = _", "x = hash(y)"]:
            self.assertNotEqual(language.name_complaints(ast.parse(text)), [], text)

    def test_methods_and_sets(self):
        for text in ["x.sort()", "x.popitem()", "x.__class__", "self.items = 1"]:
            self.assertNotEqual(language.method_complaints(ast.parse(text), set()), [], text)
        for text in ["for x in {1, 2}:\n    pass", "f(set(x))", "x = [y for y in set(z)]", "x = list({1})"]:
            self.assertNotEqual(language.set_complaints(ast.parse(text)), [], text)
        for text in ["x = sorted(set(y) & set(z))", "x = len({y for y in z})", "x = y in {1, 2}", "x = set()"]:
            self.assertEqual(language.set_complaints(ast.parse(text)), [], text)

    def test_walks(self):
        for text in ["for x in y:\n  y.append(x)", "for x in list(z):\n  pass\nfor x in enumerate(y):\n  del y[0]",
                     "for x in y[1]:\n  y[2] = 0", "for x in y.rows:\n  y.rows.extend([1])",
                     "for x in y or z:\n  z.pop()", "for x, z in y.items():\n  y.setdefault(x, []).append(z)",
                     "while y:\n  z = []\n  for x in y:\n    z.append(x)\n  y = z",
                     "while y:\n  z = []\n  for x in y:\n    z.extend(x)\n  y, k = z, 1",
                     "z = k = y\nfor x in z:\n  k.insert(0, x)", "z = [y.pop() for x in y if x]"]:
            told = "def f():\n" + "".join(f"  {line}\n" for line in text.split("\n"))
            self.assertNotEqual(language.walk_complaints(ast.parse(told)), [], text)
        for text in ["for x in list(y):\n  y.append(x)", "for x in y:\n  z.append(x)", "for x in y:\n  z[x] = y[x]",
                     "while y:\n  x = y.pop()\n  y.append(x)", "for x in y[1]:\n  z[y[0]] = 1", "y = [y[0] for x in y]"]:
            told = "def f():\n" + "".join(f"  {line}\n" for line in text.split("\n"))
            self.assertEqual(language.walk_complaints(ast.parse(told)), [], text)

    def assert_complains(self, check, wrong, right, *more):
        for text in wrong:
            self.assertNotEqual(check(ast.parse(text), *more), [], text)
        for text in right:
            self.assertEqual(check(ast.parse(text), *more), [], text)

    def test_shadows(self):
        imports = "from hookcarts.trains import trains\n"
        self.assert_complains(
            language.shadow_complaints,
            [imports + text for text in ["def f(trains):\n  pass", "def f():\n  trains = 1", "x = lambda trains: 1",
                                         "def f():\n  for trains in x:\n    pass", "def f():\n  return [1 for trains in x]",
                                         "class C:\n  def f(self):\n    C = 1"]],
            [imports + text for text in ["def f(rows):\n  return trains(rows)", "class C:\n  def trains(self):\n    pass"]])

    def test_prefixes(self):
        self.assert_complains(language.prefix_complaints, ["_lay_x = 1", "def f():\n  _record = 1", "_cold2 = 1",
                                                           "def _walls():\n  pass"],
                              ["_laid = 1", "lay_x = 1", "_recorded = 1", "def _cut():\n  pass"])

    def test_lambdas(self):
        self.assert_complains(language.lambda_complaints, ["f(lambda x: 1, lambda x: 2)"],
                              ["f(lambda x: 1, lambda y: 2)", "f(lambda x: 1,\n  lambda x: 2)"])

    def test_stars(self):
        self.assert_complains(language.star_complaints, ["f(*xs[1:])", "f(*g(x))", "f(**g(x))", "f(*[x + 1])"],
                              ["f(*xs)", "f(*box.xs, 1)", "f(*[x, 1])", "f(**d)", "x = [*g(x), *xs[1:]]"])

    def test_generators(self):
        self.assert_complains(
            language.generator_complaints,
            ["x = rows_of(y)", "f(rows_of(y))", "x = rows_of", "def f():\n  x = yield 1", "x = [rows_of(y)]"],
            ["for x in rows_of(y):\n  pass", "x = list(rows_of(y))", "x = [z for z in rows_of(y)]",
             "def f():\n  yield 1"], {"rows_of"})
