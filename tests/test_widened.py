"""Sheets that are widened by told orders, and bars."""

import copy
import itertools
import unittest

from checking import Case, all_lines, full_sheet, grid, odd_pairs, odd_tellings, odd_values
from plainly import clean_choices, having, is_walk_plainly, random_sheet, samples, tellings, widened_plainly
from small_bounds import beyond, within
from uplines.errors import InvalidOrders, TooMany
from uplines.sheets import Sheet
from uplines.told import bar, is_bar, may_be, widened
from uplines.walkers import is_change

LEVELS = {"what": "levels", "limit": 12}
NODES = {"what": "nodes", "limit": 18}
LINES = {"what": "lines", "limit": 200}


def two():
    return Sheet([["a", "b"], ["c", "d"]], [("a", "c"), ("b", "d")])


def uneven():
    return Sheet([["a", "b"], ["c", "d", "e"]], [("a", "c"), ("b", "d"), ("b", "e")])


class WidenedTests(Case):
    def test_ordinary(self):
        wide = widened(two(), {0: ["b", "a"]})
        self.assert_same(wide.levels(), [["1", "a", "b"], ["2", "4", "5", "6", "7"], ["3", "c", "d"]])
        self.assert_same(wide.lines(), [
            ("1", "2"), ("1", "6"), ("2", "3"), ("4", "c"), ("5", "d"), ("a", "4"), ("a", "7"), ("b", "5"),
            ("b", "6"), ("b", "7")])

    def test_the_top_level(self):
        self.assert_same(widened(two(), {1: ["c", "d"]}), Sheet(
            [["1", "a", "b"], ["2", "c", "d"], ["3", "4", "5"]],
            [("1", "2"), ("2", "3"), ("a", "c"), ("b", "d"), ("2", "4"), ("c", "4"), ("c", "5"), ("d", "5")]))

    def test_all_levels(self):
        self.assert_same(widened(two(), {1: ("d", "c"), 0: ["a", "b"]}), Sheet(
            [["1", "a", "b"], ["2", "5", "6", "7", "8"], ["3", "c", "d"], ["4", "9", "10"]],
            [("1", "2"), ("2", "3"), ("3", "4"), ("a", "5"), ("5", "c"), ("b", "6"), ("6", "d"), ("1", "7"),
             ("a", "7"), ("a", "8"), ("b", "8"), ("3", "9"), ("d", "9"), ("d", "10"), ("c", "10")]))

    def test_no_told_orders(self):
        self.assert_same(widened(two(), {}), Sheet([["1", "a", "b"], ["2", "c", "d"]],
                                                   [("1", "2"), ("a", "c"), ("b", "d")]))
        self.assert_same(widened(Sheet([[]]), {}), Sheet([["1"]]))

    def test_levels_without_nodes(self):
        self.assert_same(widened(Sheet([[], ["a"]]), {0: []}),
                         Sheet([["1"], ["2"], ["3", "a"]], [("1", "2"), ("2", "3")]))
        self.assert_same(widened(Sheet([[]]), {0: ()}), Sheet([["1"], ["2"]], [("1", "2")]))
        self.assert_same(widened(Sheet([["a"]]), {0: ["a"]}),
                         Sheet([["1", "a"], ["2", "3"]], [("1", "2"), ("1", "3"), ("a", "3")]))

    def test_names_that_are_there(self):
        sheet = Sheet([["1", "x"], ["3", "01", "12"]], [("1", "3"), ("x", "12")])
        self.assert_same(widened(sheet, {0: ["x", "1"]}), Sheet(
            [["2", "1", "x"], ["4", "6", "7", "8", "9"], ["5", "01", "12", "3"]],
            [("2", "4"), ("4", "5"), ("1", "6"), ("6", "3"), ("x", "7"), ("7", "12"), ("2", "8"), ("x", "8"),
             ("x", "9"), ("1", "9")]))

    def test_against_the_document_read_again(self):
        for sheet in samples(30):
            for orders in tellings(sheet, 5):
                self.assert_same(widened(sheet, orders), widened_plainly(sheet, orders))

    def test_the_sequence_of_keys_has_no_effect(self):
        orders = {0: ["b", "a"], 1: ["c", "e", "d"]}
        turned = {1: ["c", "e", "d"], 0: ["b", "a"]}
        self.assert_same(widened(uneven(), orders), widened(orders=turned, sheet=uneven()))

    def test_what_is_passed_stays(self):
        orders = {1: ["c", "e", "d"], 0: ["b", "a"]}
        held, sheet = copy.deepcopy(orders), uneven()
        widened(sheet, orders), bar(sheet, orders), is_bar(sheet, orders, [])
        self.assert_same([orders, sheet], [held, uneven()])


class BarTests(Case):
    def test_ordinary(self):
        crossed = {0: ["a", "b"], 1: ["d", "c"]}
        self.assert_same([bar(two(), {0: ["a", "b"]}), bar(two(), {})], [None, None])
        self.assert_same(is_bar(two(), crossed, bar(orders=crossed, sheet=two())), True)
        self.assert_same(is_bar(two(), crossed, tuple(bar(two(), crossed))), True)
        self.assert_same(is_bar(two(), {0: ["b", "a"], 1: ["d", "c"]}, bar(two(), crossed)), False)

    def test_a_bar_or_a_clean_drawing(self):
        some = 0
        for sheet in samples(40):
            choices = clean_choices(sheet)
            for orders in tellings(sheet, 4):
                found = bar(sheet, orders)
                self.assertEqual(found is None, bool(having(choices, orders)))
                if found is not None:
                    some += 1
                    wide = widened_plainly(sheet, orders)
                    self.assertIs(type(found), list)
                    self.assertTrue(is_walk_plainly(wide, found) and found[-1] == found[0][::-1])
                    self.assertTrue(is_bar(sheet, orders, found))
                    self.assertLessEqual(len(found), 2000)
        self.assertGreater(some, 200)

    def test_spoilt_bars(self):
        orders = {0: ["a", "b"], 1: ["d", "c", "e"]}
        found = bar(uneven(), orders)
        self.assertTrue(is_bar(uneven(), orders, found))
        for at in range(len(found)):
            for value in [None, list(found[at]), found[at][::-1], ("a", "a"), ("a", "nope"), "ab", found[at - 1]]:
                self.assert_same(is_bar(uneven(), orders, found[:at] + [value] + found[at + 1:]), False)
        for at in range(1, len(found)):
            self.assert_same(is_bar(uneven(), orders, found[:at]), False)
        for value in odd_values() + odd_pairs() + [[], (), ("change", found), [found], {0: found}]:
            self.assert_same(is_bar(value=value, orders=orders, sheet=uneven()), False)

    def test_a_sheet_that_has_a_change_itself(self):
        square = two() + ("a", "d") + ("b", "c")
        for orders in tellings(square):
            self.assertTrue(is_bar(square, orders, bar(square, orders)))

    def test_of_sheets_that_are_not_small(self):
        levels = grid(3, 8)
        sheet = Sheet(levels, [line for names, more in zip(levels, levels[1:]) for line in zip(names, more)])
        self.assert_same(bar(sheet, {0: levels[0][::-1], 1: levels[1][::-1]}), None)
        crossed = {0: levels[0], 2: levels[2][::-1]}
        self.assert_same(is_bar(sheet, crossed, bar(sheet, crossed)), True)
        one, other = [[f"{letter}{number}" for number in range(11)] for letter in "ab"]
        tall = Sheet.chain(*one) | Sheet.chain(*other)
        self.assert_same([bar(tall, {5: ["b5", "a5"]}), is_bar(tall, {5: ["a5", "b5"]}, [("a5", "b5")])], [None, False])
        for seed in range(6):
            sheet = random_sheet(seed, 8, 3, 3)
            crossed = {3: sheet.level(3), 5: sheet.level(5)[::-1]}
            found = bar(sheet, crossed)
            self.assertTrue(found is None or is_change(widened(sheet, crossed), found))


class LimitTests(Case):
    def check(self, sheet, orders, told=None):
        """All three raise this error, or none does."""
        for action in (widened, bar, lambda sheet, orders: is_bar(sheet, orders, None)):
            if told is None:
                action(sheet, orders)
            else:
                self.assert_error(TooMany, told, action, sheet, orders)

    def test_levels(self):
        six, eleven, twelve = Sheet([[]] * 6), Sheet([[]] * 11), Sheet([[]] * 12)
        self.check(six, {level: [] for level in range(6)})
        self.check(six.with_level(), {level: [] for level in range(7)}, LEVELS)
        self.check(six.with_level(), {level: [] for level in range(5)})
        for level in range(12):
            self.check(twelve, {level: []}, LEVELS)
            self.check(eleven, {level: []} if level < 11 else {})
        self.check(twelve, {})
        self.check(eleven, {0: [], 10: []}, LEVELS)

    def test_nodes(self):
        names = [f"a{number}" for number in range(18)]
        self.check(Sheet([names[:17]]), {})
        self.check(Sheet([names[:17]]), {0: names[:17]})
        self.check(Sheet([names]), {}, NODES)
        self.check(Sheet([names]), {0: names[::-1]}, NODES)
        levels = grid(2, 5)
        self.check(Sheet(levels, all_lines(levels)[:12]), {0: levels[0]})
        self.check(Sheet(levels, all_lines(levels)[:13]), {0: levels[0]}, NODES)
        self.check(Sheet(levels, all_lines(levels)[:13]), {1: levels[1]})

    def test_lines(self):
        levels = grid(2, 17)
        lines = all_lines(levels)
        self.check(Sheet(levels, lines[:199]), {})
        self.check(Sheet(levels, lines[:200]), {}, LINES)
        self.check(Sheet(levels, lines[:164]), {1: levels[1]})
        self.check(Sheet(levels, lines[:165]), {1: levels[1]}, LINES)
        levels = [[], *grid(2, 17)]
        self.check(Sheet(levels, lines[:197]), {0: []})
        self.check(Sheet(levels, lines[:198]), {0: []}, LINES)

    def test_the_first_of_them(self):
        full = full_sheet()
        self.check(full, {0: full.level(0)}, LEVELS)
        self.check(full, {}, NODES)
        self.check(full.cut(0, 1), {0: full.level(0)}, NODES)
        tall = Sheet([*grid(2, 17), *[[]] * 10], all_lines(grid(2, 17))[:200])
        self.check(tall, {7: []}, LEVELS)
        self.check(tall.cut(0, 10), {7: []}, LINES)

    def test_small_sheets_are_always_let(self):
        for sheet in within():
            for many in range(len(sheet) + 1):
                for some in itertools.combinations(range(len(sheet)), many):
                    widened(sheet, {level: sheet.level(level)[::-1] for level in some})

    def test_sheets_that_are_not_small(self):
        let = 0
        for sheet, wrong in beyond():
            if len(sheet) < 12 and max([len(names) for names in sheet.levels()]) < 18:
                let += 1
                self.check(sheet, {})
                self.check(sheet, {len(sheet) - 1: sheet.level(len(sheet) - 1)})
                self.assert_error(TooMany, wrong, may_be, sheet, {})
        self.assertGreater(let, 5)

    def test_no_told_orders_ahead_of_the_limits(self):
        full = full_sheet()
        for value in odd_values():
            if value != {}:
                for action in (widened, bar):
                    self.assert_error(InvalidOrders, {"value": value}, action, full, value)
                self.assert_error(InvalidOrders, {"value": value}, is_bar, full, value, None)


class ErrorTests(Case):
    def test_no_told_orders(self):
        for value in odd_tellings():
            for action in (widened, bar):
                self.assert_error(InvalidOrders, {"value": value}, action, uneven(), value)
            self.assert_error(InvalidOrders, {"value": value}, is_bar, uneven(), value, None)


if __name__ == "__main__":
    unittest.main()
