"""Clean drawings, orders that go together, up and down, and papers."""

import copy
import itertools
import unittest

from checking import Case, full_sheet, grid, odd_orders, odd_pairs, odd_values
from plainly import (
    clean_choices, crossing_lines, every_choice, is_walk_plainly, least_turning, random_sheet, samples,
    sheets_of_three_levels, sheets_of_two_levels,
)
from small_bounds import beyond, within
from uplines.clean import first_clean, going_down, going_up, has_clean, is_paper, last_clean, paper, together
from uplines.drawings import Drawing
from uplines.errors import InvalidLevel, InvalidOrder, TooMany
from uplines.sheets import Sheet
from uplines.walkers import change


def lower():
    return Sheet([["a", "b"], ["c", "d"]], [("a", "c"), ("a", "d"), ("b", "d")])


def full():
    return lower() + ("b", "c")


def wide():
    """Three levels, the lowest of three nodes, and an empty one on top."""
    return Sheet([["a", "b", "c"], ["d", "e"], ["f"], []], [("a", "d"), ("b", "e"), ("c", "e"), ("d", "f"), ("e", "f")])


def goes_together(sheet, level, order, upper):
    """Whether no lines of a gap cross between two orders, by looking at all of them."""
    orders = sheet.levels()
    orders[level], orders[level + 1] = list(order), list(upper)
    lines = sheet.gap(level)
    return not [crossing for crossing in crossing_lines(sheet, orders) if crossing[0] in lines]


def orders_at(sheet, level):
    return [list(order) for order in itertools.permutations(sheet.level(level))]


def going(sheet, level, by, top):
    """The orders of a level from which orders can be told level by level as far as this one."""
    if level == top:
        return orders_at(sheet, level)
    further = going(sheet, level + by, by, top)
    if by > 0:
        return [order for order in orders_at(sheet, level)
                if any(goes_together(sheet, level, order, upper) for upper in further)]
    return [order for order in orders_at(sheet, level)
            if any(goes_together(sheet, level - 1, below, order) for below in further)]


class CleanTests(Case):
    def test_ordinary(self):
        self.assert_same([has_clean(lower()), has_clean(full())], [True, False])
        self.assert_same(first_clean(lower()), Drawing(lower(), [["a", "b"], ["c", "d"]]))
        self.assert_same(last_clean(lower()), Drawing(lower(), [["b", "a"], ["d", "c"]]))
        self.assert_same([first_clean(full()), last_clean(full())], [None, None])

    def test_two_levels_against_all_choices(self):
        for sheet in sheets_of_two_levels():
            self.against_all_choices(sheet)

    def test_three_levels_against_all_choices(self):
        some = 0
        for sheet in sheets_of_three_levels(150):
            self.against_all_choices(sheet)
            some += has_clean(sheet)
        self.assertTrue(30 < some < 140)

    def test_four_levels_against_all_choices(self):
        for seed in range(8):
            self.against_all_choices(random_sheet(seed, 4, 3, 3 + seed % 3))

    def against_all_choices(self, sheet):
        choices = clean_choices(sheet)
        self.assert_same(has_clean(sheet), bool(choices))
        self.assert_same(change(sheet) is None, bool(choices))
        if choices:
            self.assert_same(first_clean(sheet), Drawing(sheet, choices[0]))
            self.assert_same(last_clean(sheet), Drawing(sheet, choices[-1]))
            self.assert_same(paper(sheet)[0], "orders")
            self.assertIn(paper(sheet)[1], choices)
        else:
            self.assert_same([first_clean(sheet), last_clean(sheet)], [None, None])
            self.assert_same(paper(sheet)[0], "change")
            self.assertTrue(is_walk_plainly(sheet, paper(sheet)[1]))
            self.assertEqual(paper(sheet)[1][0], paper(sheet)[1][-1][::-1])
        self.assert_same(is_paper(sheet, paper(sheet)), True)

    def test_edges(self):
        for sheet, first, last in [
            (Sheet([[]]), [[]], [[]]), (Sheet([["a"]]), [["a"]], [["a"]]), (Sheet([[], []]), [[], []], [[], []]),
            (Sheet([["c", "b"], []]), [["b", "c"], []], [["c", "b"], []]),
            (Sheet.chain("b", "a", "c"), [["b"], ["a"], ["c"]], [["b"], ["a"], ["c"]]),
        ]:
            self.assert_same(has_clean(sheet), True)
            self.assert_same([first_clean(sheet).orders(), last_clean(sheet).orders()], [first, last])
            self.assert_same(paper(sheet), ("orders", first))

    def test_the_largest_small_sheets(self):
        levels = grid(6, 5)
        free = Sheet(levels)
        self.assert_same(first_clean(free).orders(), levels)
        self.assert_same(last_clean(free).orders(), [names[::-1] for names in levels])
        stairs = Sheet(levels, [(names[at], more[at + by]) for names, more in zip(levels, levels[1:])
                                for at in range(5) for by in (0, 1) if at + by < 5])
        self.assert_same(first_clean(stairs).orders(), levels)
        self.assert_same([has_clean(stairs), going_up(stairs, 0), going_down(stairs, 5)],
                         [True, [levels[0], levels[0][::-1]], [levels[5], levels[5][::-1]]])
        twisted = stairs + (levels[0][4], levels[1][0])
        self.assert_same([has_clean(twisted), first_clean(twisted), paper(twisted)[0]], [False, None, "change"])

    def test_has_clean_of_great_sheets(self):
        levels = grid(12, 18)
        paths = Sheet(levels, [line for names, more in zip(levels, levels[1:]) for line in zip(names, more)])
        self.assert_same(has_clean(sheet=paths), True)
        self.assert_same(has_clean(full_sheet()), False)
        self.assert_same(has_clean(Sheet(levels)), True)
        twisted = Sheet(levels, paths.lines() + [(levels[3][0], levels[4][1]), (levels[3][1], levels[4][0])])
        self.assert_same(has_clean(twisted), False)
        for seed in range(30):
            sheet = random_sheet(seed, 8, 4, 2 + seed % 3)
            self.assertEqual(has_clean(sheet), least_turning(sheet) is None)

    def test_by_name(self):
        self.assert_same(first_clean(sheet=lower()).orders(), [["a", "b"], ["c", "d"]])
        self.assert_same(last_clean(sheet=lower()).orders(), [["b", "a"], ["d", "c"]])
        self.assert_same(paper(sheet=lower())[0], "orders")


class GoingTests(Case):
    def test_together(self):
        self.assert_same(together(lower(), 0, ["b", "a"]), [["d", "c"]])
        self.assert_same(together(wide(), 0, ("b", "a", "c")), [])
        self.assert_same(together(wide(), 0, ["b", "c", "a"]), [["e", "d"]])
        self.assert_same(together(wide(), 1, ["e", "d"]), [["f"]])
        self.assert_same(together(wide(), 2, ["f"]), [[]])
        self.assert_same(together(order=["a", "b"], level=0, sheet=Sheet([["a", "b"], ["d", "c"]])),
                         [["c", "d"], ["d", "c"]])

    def test_together_against_all_choices(self):
        for sheet in samples():
            for level in range(len(sheet) - 1):
                for order in orders_at(sheet, level):
                    wanted = [upper for upper in orders_at(sheet, level + 1)
                              if goes_together(sheet, level, order, upper)]
                    self.assert_same(together(sheet, level, order), wanted)

    def test_going_up_and_down(self):
        self.assert_same([going_up(lower(), 0), going_up(full(), 0), going_up(full(), 1)],
                         [[["a", "b"], ["b", "a"]], [], [["c", "d"], ["d", "c"]]])
        self.assert_same([going_down(full(), 0), going_down(full(), 1)], [[["a", "b"], ["b", "a"]], []])
        self.assert_same([going_up(wide(), 3), going_down(wide(), 3), going_up(Sheet([[]]), 0)], [[[]], [[]], [[]]])
        self.assert_same(going_down(level=0, sheet=Sheet([["b", "a"]])), [["a", "b"], ["b", "a"]])
        self.assert_same(going_up(level=0, sheet=Sheet([["b", "a"]])), [["a", "b"], ["b", "a"]])

    def test_going_against_all_choices(self):
        for sheet in samples(80):
            choices = clean_choices(sheet)
            for level in range(len(sheet)):
                ups, downs = going_up(sheet, level), going_down(sheet, level)
                self.assert_same(ups, going(sheet, level, 1, len(sheet) - 1))
                self.assert_same(downs, going(sheet, level, -1, 0))
                both = [order for order in ups if order in downs]
                self.assertEqual(both, [order for order in orders_at(sheet, level)
                                        if order in [choice[level] for choice in choices]])

    def test_told_lists_are_new(self):
        for told in (together(lower(), 0, ["b", "a"]), going_up(lower(), 0), going_down(lower(), 1)):
            told[0].clear()
            told.clear()
        self.assert_same([together(lower(), 0, ["b", "a"]), len(going_up(lower(), 0))], [[["d", "c"]], 2])
        order = ["b", "a"]
        together(lower(), 0, order)
        self.assert_same(order, ["b", "a"])

    def test_no_level(self):
        for value in odd_values() + [4, "0", [0]]:
            self.assert_error(InvalidLevel, {"value": value}, going_up, wide(), value)
            self.assert_error(InvalidLevel, {"value": value}, going_down, wide(), value)
            self.assert_error(InvalidLevel, {"value": value}, together, wide(), value, None)
        self.assert_error(InvalidLevel, {"value": 3}, together, wide(), 3, [])
        self.assert_error(InvalidLevel, {"value": 0}, together, Sheet([["a"]]), 0, ["a"])

    def test_no_order(self):
        for value in odd_orders():
            self.assert_error(InvalidOrder, {"value": value}, together, wide(), 0, value)
            if value not in ([], ()):
                self.assert_error(InvalidOrder, {"value": value}, together, wide() >> Sheet([["z"]]), 3, value)


class PaperTests(Case):
    def test_is_paper(self):
        self.assert_same(is_paper(lower(), ("orders", [["a", "b"], ["c", "d"]])), True)
        self.assert_same(is_paper(lower(), ("orders", (("b", "a"), ["d", "c"]))), True)
        self.assert_same(is_paper(lower(), ("orders", [["b", "a"], ["c", "d"]])), False)
        self.assert_same(is_paper(full(), ("change", [("a", "b"), ("c", "d"), ("b", "a")])), True)
        self.assert_same(is_paper(full(), ("change", (("a", "b"), ("d", "c"), ("b", "a")))), True)
        self.assert_same(is_paper(value=("change", [("a", "b"), ("c", "d")]), sheet=full()), False)
        self.assert_same(is_paper(lower(), ("change", [("a", "b"), ("c", "d"), ("b", "a")])), False)

    def test_all_choices(self):
        for sheet in samples(20):
            choices = clean_choices(sheet)
            for choice in every_choice(sheet):
                self.assert_same(is_paper(sheet, ("orders", choice)), choice in choices)
                self.assert_same(is_paper(sheet, ("change", choice)), False)

    def test_no_paper(self):
        good, other = ("orders", [["a", "b"], ["c", "d"]]), ("change", [("a", "b"), ("c", "d"), ("b", "a")])
        for value in odd_values() + odd_pairs() + [list(good), good[1], (), good[:1], (*good, []), ("order", good[1]),
                                                   ("change", good[1]), (good[1], "orders"), ({}, []), ([], [])]:
            self.assert_same(is_paper(lower(), value), False)
        for value in odd_values() + odd_pairs() + [list(other), other[1], ("orders", other[1]), ("", other[1])]:
            self.assert_same(is_paper(full(), value), False)
        for value in odd_values() + [[], [["a", "b"]], [["a", "b"], ["c", "d"], []], [["c", "d"], ["a", "b"]],
                                     [["a", "b"], ["c"]], [["a", "b"], "cd"], {0: ["a", "b"], 1: ["c", "d"]}]:
            self.assert_same(is_paper(lower(), ("orders", value)), False)
            self.assert_same(is_paper(full(), ("change", value)), False)

    def test_of_great_sheets(self):
        levels = grid(12, 18)
        paths = Sheet(levels, [line for names, more in zip(levels, levels[1:]) for line in zip(names, more)])
        self.assert_same(is_paper(paths, ("orders", levels)), True)
        turned = [names[::-1] for names in levels]
        self.assert_same(is_paper(paths, ("orders", turned)), True)
        self.assert_same(is_paper(paths, ("orders", turned[:1] + levels[1:])), False)
        self.assert_same(is_paper(full_sheet(), ("change", change(full_sheet()))), True)

    def test_what_is_passed_stays(self):
        for value in (("orders", [["a", "b"], ["c", "d"]]), ("change", [("a", "b"), ("c", "d"), ("b", "a")])):
            held = copy.deepcopy(value)
            is_paper(full(), value)
            self.assert_same(value, held)
        paper(lower())[1].clear()
        self.assert_same(paper(lower()), ("orders", [["a", "b"], ["c", "d"]]))


class BoundTests(Case):
    def test_within(self):
        for sheet in within():
            for action in (first_clean, last_clean, paper):
                action(sheet)
            self.assertEqual(len(going_up(sheet, 0)) > 0, has_clean(sheet))
            going_down(sheet, 0)
            if len(sheet) > 1:
                together(sheet, 0, sheet.level(0))

    def test_beyond(self):
        for sheet, told in beyond():
            for action in (first_clean, last_clean, paper):
                self.assert_error(TooMany, told, action, sheet)
            for action in (going_up, going_down):
                self.assert_error(TooMany, told, action, sheet, 0)
                self.assert_error(InvalidLevel, {"value": len(sheet)}, action, sheet, len(sheet))
            if len(sheet) > 1:
                self.assert_error(TooMany, told, together, sheet, 0, sheet.level(0))
                self.assert_error(InvalidOrder, {"value": None}, together, sheet, 0, None)
            self.assert_error(InvalidLevel, {"value": True}, together, sheet, True, None)
            self.assertIn(has_clean(sheet), (True, False))
            self.assert_same(is_paper(sheet, None), False)


if __name__ == "__main__":
    unittest.main()
