"""The interface: each name in its file, with its parameters, and each method in its class itself."""

import importlib
import inspect
import unittest

FUNCTIONS = {
    "walkers": """
        steps(sheet, pair) is_step(sheet, start, goal) walk(sheet, start, goal) how_far(sheet, start, goal)
        is_walk(sheet, start, goal, value) change(sheet) change_from(sheet, pair) is_change(sheet, value)
        class_of(sheet, pair) classes(sheet) relation(sheet, one, other) lines_of(sheet, way)
        many_walks(sheet, start, goal, number) all_walks(sheet, start, number)
    """,
    "clean": """
        has_clean(sheet) first_clean(sheet) last_clean(sheet) together(sheet, level, order) going_up(sheet, level)
        going_down(sheet, level) paper(sheet) is_paper(sheet, value)
    """,
    "told": """
        widened(sheet, orders) bar(sheet, orders) is_bar(sheet, orders, value) may_be(sheet, orders)
        first_with(sheet, orders) settled(sheet, orders) orders_of(sheet, level)
        orders_beside(sheet, level, order, other) are_free(sheet, one, other)
    """,
    "pairs": """
        follows(sheet, pairs) does_clash(sheet, pairs) trace(sheet, pairs, pair) is_trace(sheet, pairs, pair, value)
        clash(sheet, pairs) is_clash(sheet, pairs, value)
    """,
    "fences": """
        keeps(drawing, pairs) drawing_with(sheet, pairs) can_keep(sheet, pairs) fence(sheet, pairs)
        is_fence(sheet, pairs, value) bound(sheet, pairs) is_bound(sheet, pairs, pair)
    """,
    "counts": """
        how_many(sheet) drawings(sheet) drawing_at(sheet, number) number_of(sheet, drawing) count_with(sheet, orders)
        count_pairs(sheet, pairs)
    """,
}
CLASSES = {
    "walkers.Walkers": """
        __init__(self, sheet, pair) begin(self, pair) way(self) go(self, goal) back(self) have_changed(self) copy(self)
        __iadd__ __len__ __contains__ __iter__ __enter__ __exit__ __eq__ :sheet :pair :ups :downs
    """,
    "drawings.Drawing": """
        __init__(self, sheet, orders) orders(self) is_left(self, one, other) crossings(self) crossings_at(self, node)
        turned(self) with_order(self, level, order) swapped(self, level, position)
        __getitem__ __neg__ __invert__ __sub__ __iter__ __eq__ __repr__ :sheet :is_clean
    """,
    "told.Told": """
        __init__(self, sheet, orders) levels(self) orders(self) is_within(self, other) may_be(self) settle(self)
        __call__(self, drawing) __getitem__ __len__ __contains__ __add__ __radd__ __sub__ __invert__ __or__ __eq__
        __repr__ :sheet
    """,
    "counts.Gallery": """
        __init__(self, sheet) how_many(self) index(self, drawing) __getitem__ __contains__ __eq__ :sheet
    """,
}
CLASS_METHODS = {"drawings.Drawing": "plain(sheet)"}


def entries(text):
    """Each entry of a table as its name and its parameters, None if these are not told."""
    for entry in text.replace(", ", ",").split():
        name, bracket, told = entry.partition("(")
        yield name, told[:-1].split(",") if bracket else None


def parameters(action):
    return [told.name for told in inspect.signature(action).parameters.values()
            if told.kind is inspect.Parameter.POSITIONAL_OR_KEYWORD]


class InterfaceTests(unittest.TestCase):
    def test_functions(self):
        for file, text in FUNCTIONS.items():
            module = importlib.import_module(f"uplines.{file}")
            for name, told in entries(text):
                self.assertEqual(vars(module)[name].__module__, module.__name__, name)
                self.assertEqual(parameters(vars(module)[name]), told, name)

    def test_classes(self):
        for place, text in CLASSES.items():
            file, name = place.split(".")
            module = importlib.import_module(f"uplines.{file}")
            own = vars(vars(module)[name])
            self.assertEqual(own["__module__"], module.__name__)
            for method, told in entries(text):
                if method.startswith(":"):
                    self.assertIsInstance(own[method[1:]], property, method)
                else:
                    self.assertTrue(inspect.isfunction(own[method]), method)
                if told is not None:
                    self.assertEqual(parameters(own[method]), told, method)

    def test_class_methods(self):
        for place, text in CLASS_METHODS.items():
            file, name = place.split(".")
            kind = vars(importlib.import_module(f"uplines.{file}"))[name]
            for method, told in entries(text):
                self.assertIsInstance(vars(kind)[method], classmethod)
                self.assertEqual(parameters(getattr(kind, method)), told)


if __name__ == "__main__":
    unittest.main()
