import ast
import importlib
import inspect
import pathlib
import unittest

PACKAGE = pathlib.Path(__file__).resolve().parent.parent / "hookcarts"

# What the interface lists of each file: functions and classes with their arguments.
SIGNATURES = {
    "errors": {
        "Wrong": "(place)", "NoKind": "(kind)", "NoCart": "(cart)", "Missing": "(cart)", "Both": "(kind)",
        "Fixed": "(index)", "NoPlace": "(index)", "NoNumber": "(number)", "NoRange": "(cart)", "Refused": "(deed)",
        "NoText": "(index)", "CartError": None, "Loose": None, "NoAdapters": None, "Nothing": None, "NoCommand": None,
    },
    "kinds": {
        "is_integer": "(thing)", "is_number": "(least, thing)", "is_kind": "(thing)", "is_cart": "(thing)",
        "is_step": "(thing)",
    },
    "carts": {
        "cart_of": "(one, other, *, turns=False)", "steps_of": "(cart)", "begin_of": "(step)", "end_of": "(step)",
        "about": "(step)", "couple": "(step, other)",
    },
    "rows": {"is_row": "(thing)", "row_ends": "(row)", "carts_in": "(row)", "row_about": "(row)"},
}

# What the interface lists of each class, beside its constructor.
METHODS = {}


def defined_in(body):
    """Return the names of the functions and classes that are defined in a body."""
    return [part.name for part in body if isinstance(part, (ast.FunctionDef, ast.ClassDef))]


def tree_of(name):
    """Return the syntax tree of a file of the package."""
    return ast.parse((PACKAGE / f"{name}.py").read_text(encoding="ascii"))


class InterfaceTest(unittest.TestCase):
    def test_each_name_is_defined_in_its_file(self):
        for name, listed in SIGNATURES.items():
            for told in listed:
                self.assertIn(told, defined_in(tree_of(name).body))

    def test_signatures(self):
        for name, listed in SIGNATURES.items():
            module = importlib.import_module(f"hookcarts.{name}")
            for told, signature in listed.items():
                if signature is not None:
                    self.assertEqual(str(inspect.signature(getattr(module, told))), signature, told)

    def test_each_method_is_defined_in_its_class(self):
        for (name, told), listed in METHODS.items():
            found = next(part for part in tree_of(name).body if isinstance(part, ast.ClassDef) and part.name == told)
            shape = getattr(importlib.import_module(f"hookcarts.{name}"), told)
            for method, signature in listed.items():
                self.assertIn(method, defined_in(found.body))
                self.assertEqual(str(inspect.signature(getattr(shape, method))), signature, method)
