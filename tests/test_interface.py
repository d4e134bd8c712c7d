"""The interface: each name in its file, with its parameters, and each method in its class itself."""

import importlib
import inspect
import unittest

FUNCTIONS = {
    "basics": "is_integer(value) is_count(value) is_name(value)",
    "walkers": """
        steps(sheet, pair) is_step(sheet, start, goal) walk(sheet, start, goal) how_far(sheet, start, goal)
        is_walk(sheet, start, goal, value) change(sheet) change_from(sheet, pair) is_change(sheet, value)
        class_of(sheet, pair) classes(sheet) relation(sheet, one, other) lines_of(sheet, way)
        many_walks(sheet, start, goal, number) all_walks(sheet, start, number)
    """,
    "clean": """
        has_clean(sheet) first_clean(sheet) last_clean(sheet) together(sheet, level, order) going_up(sheet, level)
        going_down(sheet, level) paper(sheet) is_paper(sheet, value)
    """,
    "told": """
        widened(sheet, orders) bar(sheet, orders) is_bar(sheet, orders, value) may_be(sheet, orders)
        first_with(sheet, orders) settled(sheet, orders) orders_of(sheet, level)
        orders_beside(sheet, level, order, other) are_free(sheet, one, other)
    """,
    "pairs": """
        follows(sheet, pairs) does_clash(sheet, pairs) trace(sheet, pairs, pair) is_trace(sheet, pairs, pair, value)
        clash(sheet, pairs) is_clash(sheet, pairs, value)
    """,
    "fences": """
        keeps(drawing, pairs) drawing_with(sheet, pairs) can_keep(sheet, pairs) fence(sheet, pairs)
        is_fence(sheet, pairs, value) bound(sheet, pairs) is_bound(sheet, pairs, pair)
    """,
    "counts": """
        how_many(sheet) drawings(sheet) drawing_at(sheet, number) number_of(sheet, drawing) count_with(sheet, orders)
        count_pairs(sheet, pairs)
    """,
    "sure": """
        sure_word(sheet, pair, other) sure_paper(sheet, pair, other) is_sure_paper(sheet, pair, other, value)
        sure_classes(sheet) between(sheet, nodes) between_papers(sheet, nodes) neighbours(sheet) parting(sheet, pair)
        neighbour_papers(sheet, pair) are_neighbour_papers(sheet, pair, value) may_end(sheet, level)
        sure_ends(sheet, level) end_paper(sheet, node) is_end_paper(sheet, node, value) blocks(sheet, level)
        decides(sheet, level, other) undecided(sheet, level, other)
    """,
    "struck": """
        helps(sheet, some) without(sheet, some) is_narrow(sheet, some) fewest(sheet) least_lists(sheet)
        narrow_lists(sheet, most) surely_struck(sheet) may_be_struck(sheet) tree_against(sheet, many)
        is_tree_against(sheet, many, value) are_apart(sheet, value)
    """,
    "more": """
        may_come(sheet, line) refusal(sheet, line) are_together(sheet, lines) is_refusal(sheet, line, value)
        new_lines(sheet) coming(sheet) refused(sheet) foes(sheet) filled(sheet)
    """,
    "texts": "text_of(sheet) read_sheet(text) drawing_text(drawing) read_drawing(text)",
    "claims": "is_claim(value) is_true(claim) paper_for(claim) is_paper(claim, value)",
}
CLASSES = {
    "sheets.Sheet": """
        __init__(self, levels, lines) levels(self) level(self, number) lines(self) gap(self, number)
        level_of(self, node) above(self, node) below(self, node) pairs(self) parts(self) is_small(self)
        with_node(self, level, name) without_node(self, node) with_level(self) cut(self, first, last)
        joined(self, lines) __len__ __contains__ __iter__ __eq__ __repr__ __add__ __radd__ __sub__ __invert__ __or__
        __rshift__
    """,
    "walkers.Walkers": """
        __init__(self, sheet, pair) begin(self, pair) way(self) go(self, goal) back(self) have_changed(self) copy(self)
        __iadd__ __len__ __contains__ __iter__ __enter__ __exit__ __eq__ :sheet :pair :ups :downs
    """,
    "drawings.Drawing": """
        __init__(self, sheet, orders) orders(self) is_left(self, one, other) crossings(self) crossings_at(self, node)
        turned(self) with_order(self, level, order) swapped(self, level, position)
        __getitem__ __neg__ __invert__ __sub__ __iter__ __eq__ __repr__ :sheet :is_clean
    """,
    "told.Told": """
        __init__(self, sheet, orders) levels(self) orders(self) is_within(self, other) may_be(self) settle(self)
        __call__(self, drawing) __getitem__ __len__ __contains__ __add__ __radd__ __sub__ __invert__ __or__ __eq__
        __repr__ :sheet
    """,
    "counts.Gallery": """
        __init__(self, sheet) how_many(self) index(self, drawing) __getitem__ __contains__ __eq__ :sheet
    """,
    "struck.Strike": """
        __init__(self, sheet) lines(self) is_within(self, other) __len__ __contains__ __iter__ __add__ __radd__ __sub__
        __or__ __and__ __eq__ __repr__ :sheet :rest :does_help
    """,
    "growing.Grower": """
        __init__(self, names) level(self) node(self, name) tie(self, low, high) may(self, low, high)
        why_not(self, low, high) orders(self) is_as_good(self, other) undo(self) log(self) copy(self)
        tried(self, action) __call__(self, lines) __iadd__ __len__ __contains__ __eq__ __enter__ __exit__ :sheet :top
    """,
    "desk.Desk": """
        __init__(self, sheet) use(self, sheet) log(self) do(self, command) do_all(self) copy(self)
        __call__(self, command) __iadd__ __len__ __eq__ __enter__ __exit__ :sheet
    """,
}
CLASS_METHODS = {"drawings.Drawing": "plain(sheet)", "sheets.Sheet": "chain()", "struck.Strike": "least(sheet)"}


def entries(text):
    """Each entry of a table as its name and its parameters, None if these are not told."""
    for entry in text.replace(", ", ",").split():
        name, bracket, told = entry.partition("(")
        yield name, [word for word in told[:-1].split(",") if word] if bracket else None


def parameters(action):
    return [told.name for told in inspect.signature(action).parameters.values()
            if told.kind is inspect.Parameter.POSITIONAL_OR_KEYWORD]


class InterfaceTests(unittest.TestCase):
    def test_functions(self):
        for file, text in FUNCTIONS.items():
            module = importlib.import_module(f"uplines.{file}")
            for name, told in entries(text):
                self.assertEqual(vars(module)[name].__module__, module.__name__, name)
                self.assertEqual(parameters(vars(module)[name]), told, name)

    def test_classes(self):
        for place, text in CLASSES.items():
            file, name = place.split(".")
            module = importlib.import_module(f"uplines.{file}")
            own = vars(vars(module)[name])
            self.assertEqual(own["__module__"], module.__name__)
            for method, told in entries(text):
                if method.startswith(":"):
                    self.assertIsInstance(own[method[1:]], property, method)
                else:
                    self.assertTrue(inspect.isfunction(own[method]), method)
                if told is not None:
                    self.assertEqual(parameters(own[method]), told, method)

    def test_more_arguments(self):
        """What is passed one by one, as many as there are."""
        for place, name in [("sheets.Sheet", "chain"), ("struck.Strike", "__init__"), ("desk.Desk", "do_all")]:
            file, kind = place.split(".")
            told = inspect.signature(getattr(vars(importlib.import_module(f"uplines.{file}"))[kind], name))
            self.assertIn(inspect.Parameter.VAR_POSITIONAL, [one.kind for one in told.parameters.values()])

    def test_static_methods_values_and_setters(self):
        from uplines.claims import KINDS
        from uplines.desk import Desk
        from uplines.sheets import Sheet
        from uplines.walkers import Walkers
        self.assertEqual(parameters(Desk.is_command), ["value"])
        self.assertIsInstance(vars(Desk)["is_command"], staticmethod)
        self.assertIsNotNone(vars(Desk)["sheet"].fset)
        self.assertIsNotNone(vars(Walkers)["pair"].fset)
        self.assertEqual([Sheet.MOST_LEVELS, Sheet.MOST_NODES, Sheet.MOST_LINES], [12, 18, 200])
        self.assertEqual([type(KINDS), len(KINDS)], [tuple, 10])

    def test_class_methods(self):
        for place, text in CLASS_METHODS.items():
            file, name = place.split(".")
            kind = vars(importlib.import_module(f"uplines.{file}"))[name]
            for method, told in entries(text):
                self.assertIsInstance(vars(kind)[method], classmethod)
                self.assertEqual(parameters(getattr(kind, method)), told)


if __name__ == "__main__":
    unittest.main()
