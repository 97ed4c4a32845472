import ast
import importlib
import inspect
import pathlib
import unittest

PACKAGE = pathlib.Path(__file__).resolve().parent.parent / "hookcarts"

# What the interface lists of each file: functions and classes with their arguments.
SIGNATURES = {
    "errors": {
        "Wrong": "(place)", "NoKind": "(kind)", "NoCart": "(cart)", "Missing": "(cart)", "Both": "(kind)",
        "Fixed": "(index)", "NoPlace": "(index)", "NoNumber": "(number)", "NoRange": "(cart)", "Refused": "(deed)",
        "NoText": "(index)", "CartError": None, "Loose": None, "NoAdapters": None, "Nothing": None, "NoCommand": None,
    },
    "kinds": {
        "is_integer": "(thing)", "is_number": "(least, thing)", "is_kind": "(thing)", "is_cart": "(thing)",
        "is_step": "(thing)",
    },
    "carts": {
        "cart_of": "(one, other, *, turns=False)", "steps_of": "(cart)", "begin_of": "(step)", "end_of": "(step)",
        "about": "(step)", "couple": "(step, other)",
    },
    "rows": {"is_row": "(thing)", "row_ends": "(row)", "carts_in": "(row)", "row_about": "(row)"},
    "longtrains": {
        "is_train": "(thing)", "train_ends": "(train)", "carts_of": "(train)", "length": "(train)",
        "step_at": "(train, index)", "stretch": "(train, first, many)", "joined": "(one, other)",
        "train_about": "(train)",
    },
    "heaps": {"Heap": "(carts)"},
    "lots": {
        "hang": "(heap, one, other)", "lot_of": "(heap, kind)", "links": "(heap, one, other)",
        "is_links": "(heap, one, other, thing)", "is_cut": "(heap, thing)", "holding": "(heap)",
    },
    "strains": {"strain": "(heap, highs, lows)", "greatest": "(heap)", "worst": "(heap)"},
    "turnings": {
        "is_turning": "(heap, thing)", "balances": "(heap, turning)", "spread": "(heap, turning)",
        "best_turning": "(heap)",
    },
    "fewest": {"fewest": "(heap)", "shown": "(heap, highs, lows)"},
    "alikes": {"alike": "(one, other)", "telling": "(one, other)"},
    "splits": {
        "is_split": "(heap, thing)", "heap_in": "(split)", "how_many": "(split)", "split_ends": "(split)",
        "turned_in": "(split)",
    },
    "rounds": {"rounds": "(heap, turning)", "is_round": "(thing)", "is_rounds": "(heap, turning, thing)"},
    "trains": {
        "trains": "(heap)", "trains_by": "(heap, turning)", "one_train": "(heap)", "ring": "(heap)",
        "led": "(heap, first, last)",
    },
    "ends": {
        "ends": "(heap)", "least_ends": "(heap, kind)", "always_ends": "(heap)", "most_begins": "(heap, kind)",
        "most_ends": "(heap, kind)",
    },
    "neighbours": {
        "held": "(heap, row)", "fewest_with": "(heap, row)", "can_stand": "(heap, row)", "standing": "(heap, row)",
        "begun": "(heap, row)", "goes_on": "(heap, row)", "couples": "(heap)", "first_place": "(train, row)",
    },
    "known": {"Known": "(ranges)"},
    "mosts": {"most_fewest": "(known)", "most_heap": "(known)"},
    "leasts": {"least_fewest": "(known)", "least_heap": "(known)"},
    "sures": {
        "heap_with": "(known, number)", "can_be_one": "(known)", "surely_one": "(known)", "surely_odd": "(known)",
        "never_odd": "(known)", "possible_ends": "(known)",
    },
    "shops": {
        "is_shop": "(thing)", "is_purchase": "(shop, thing)", "price_of": "(shop, purchase)", "links_missing": "(heap)",
        "way_of": "(shop, purchase)", "least_of": "(shop, way)", "open_ways": "(heap, shop)",
        "shown_price": "(heap, shop, way, ends, worths)", "linking": "(heap)",
    },
    "buying": {
        "cheapest": "(heap, shop)", "cheapest_by": "(heap, shop, way, ends)", "bill": "(heap, shop, price)",
        "is_bill": "(heap, shop, price, thing)",
    },
    "ways": {
        "ways": "(heap)", "ways_led": "(heap, first, last)", "ways_by": "(heap, turning)",
        "ways_beginning": "(heap, row)", "begins": "(heap)", "turnings_told": "(heap)",
    },
    "indexes": {
        "nth": "(heap, index)", "place_of": "(heap, thing)", "next_row": "(heap, row)", "rows_of": "(heap)",
    },
    "yard": {"is_deed": "(thing)", "Yard": "(heap)"},
    "notation": {
        "cart_text": "(cart)", "step_text": "(step)", "row_text": "(row)", "train_text": "(train)",
        "heap_text": "(heap)", "deed_text": "(deed)",
    },
    "readers": {
        "read_cart": "(text)", "read_step": "(text)", "read_row": "(text)", "read_train": "(text)",
        "read_heap": "(text)", "read_deed": "(text)",
    },
    "desk": {"Desk": "(heap)"},
}

# What the interface lists of each class, beside its constructor.
METHODS = {
    ("heaps", "Heap"): {
        "__init__": "(self, carts)", "__len__": "(self)", "__contains__": "(self, x)", "__getitem__": "(self, at)",
        "__eq__": "(self, other)", "__add__": "(self, other)", "__sub__": "(self, other)", "__mul__": "(self, other)",
        "__rmul__": "(self, other)", "__iter__": "(self)", "carts": "(self)", "count": "(self)",
        "hooks": "(self, kind)", "kinds": "(self)", "odd": "(self)", "lots": "(self)", "is_within": "(self, other)",
        "put": "(self, cart, many=1)", "out": "(self, cart, many=1)", "renamed": "(self, names)", "about": "(self)",
    },
    ("known", "Known"): {
        "__init__": "(self, ranges)", "__len__": "(self)", "__contains__": "(self, x)", "__getitem__": "(self, at)",
        "__eq__": "(self, other)", "__and__": "(self, other)", "__iter__": "(self)", "fits": "(self, heap)",
        "narrowed": "(self, cart, least, most)", "leasts": "(self)", "mosts": "(self)", "how_many": "(self)",
        "kinds": "(self)",
    },
    ("yard", "Yard"): {
        "__init__": "(self, heap)", "do": "(self, deed)", "do_all": "(self, deeds)", "back": "(self)",
        "again": "(self)", "log": "(self)", "trains": "(self)", "advice": "(self)", "copied": "(self)",
        "free": "(self)", "standing": "(self)", "pieces": "(self)", "fewest": "(self)",
    },
    ("desk", "Desk"): {"__init__": "(self, heap)", "execute": "(self, line)"},
}


def defined_in(body):
    """Return the names of the functions and classes that are defined in a body."""
    return [part.name for part in body if isinstance(part, (ast.FunctionDef, ast.ClassDef))]


def tree_of(name):
    """Return the syntax tree of a file of the package."""
    return ast.parse((PACKAGE / f"{name}.py").read_text(encoding="ascii"))


class InterfaceTest(unittest.TestCase):
    def test_each_name_is_defined_in_its_file(self):
        for name, listed in SIGNATURES.items():
            for told in listed:
                self.assertIn(told, defined_in(tree_of(name).body))

    def test_signatures(self):
        for name, listed in SIGNATURES.items():
            module = importlib.import_module(f"hookcarts.{name}")
            for told, signature in listed.items():
                if signature is not None:
                    self.assertEqual(str(inspect.signature(getattr(module, told))), signature, told)

    def test_each_method_is_defined_in_its_class(self):
        for (name, told), listed in METHODS.items():
            found = next(part for part in tree_of(name).body if isinstance(part, ast.ClassDef) and part.name == told)
            shape = getattr(importlib.import_module(f"hookcarts.{name}"), told)
            for method, signature in listed.items():
                self.assertIn(method, defined_in(found.body))
                self.assertEqual(str(inspect.signature(getattr(shape, method))), signature, method)
