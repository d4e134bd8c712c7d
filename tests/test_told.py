"""Told orders: whether they may be, what they settle, which orders are beside others."""

import copy
import unittest

from checking import Case, grid, odd_orders, odd_tellings, odd_values
from plainly import clean_choices, every_choice, having, random_sheet, samples, sheets_of_two_levels, tellings
from small_bounds import beyond, within
from uplines.drawings import Drawing
from uplines.errors import InvalidLevel, InvalidOrder, InvalidOrders, NothingClean, TooMany
from uplines.sheets import Sheet
from uplines.told import are_free, first_with, may_be, orders_beside, orders_of, settled


def two():
    return Sheet([["a", "b"], ["c", "d"]], [("a", "c"), ("b", "d")])


def uneven():
    return Sheet([["a", "b"], ["c", "d", "e"]], [("a", "c"), ("b", "d"), ("b", "e")])


def square():
    return two() + ("a", "d") + ("b", "c")


def unlike(choices, level):
    """The sorted list of the orders that a level has in some lists of orders."""
    return sorted([list(order) for order in {tuple(choice[level]) for choice in choices}])


class OrdersTests(Case):
    def test_may_be(self):
        self.assert_same(may_be(two(), {0: ["a", "b"], 1: ["d", "c"]}), False)
        self.assert_same(may_be(two(), {0: ["b", "a"], 1: ("d", "c")}), True)
        self.assert_same([may_be(two(), {}), may_be(square(), {}), may_be(Sheet([[]]), {0: []})], [True, False, True])
        self.assert_same([may_be(orders={1: order}, sheet=uneven()) for order in (["d", "e", "c"], ["d", "c", "e"])],
                         [True, False])

    def test_first_with(self):
        self.assert_same(first_with(uneven(), {1: ["e", "d", "c"]}),
                         Drawing(uneven(), [["b", "a"], ["e", "d", "c"]]))
        self.assert_same(first_with(orders={0: ["b", "a"]}, sheet=uneven()),
                         Drawing(uneven(), [["b", "a"], ["d", "e", "c"]]))
        self.assert_same([first_with(square(), {}), first_with(uneven(), {1: ["d", "c", "e"]})], [None, None])

    def test_settled(self):
        self.assert_same([settled(two(), {1: ["c", "d"]}), settled(two(), {})], [[0, 1], []])
        self.assert_same(settled(uneven(), {0: ["a", "b"]}), [0])
        self.assert_same(settled(orders={1: ["c", "e", "d"]}, sheet=uneven()), [0, 1])
        self.assert_same(settled(Sheet([["b", "a"], ["c"], []]), {}), [1, 2])
        self.assert_error(NothingClean, {}, settled, square(), {})
        self.assert_error(NothingClean, {}, settled, two(), {0: ["a", "b"], 1: ["d", "c"]})

    def test_against_all_choices(self):
        for sheet in [*samples(40), *[random_sheet(seed, 4, 3, 3) for seed in range(4)]]:
            choices = clean_choices(sheet)
            for orders in tellings(sheet, 3):
                left = having(choices, orders)
                self.assert_same(may_be(sheet, orders), bool(left))
                if not left:
                    self.assert_same(first_with(sheet, orders), None)
                    self.assert_error(NothingClean, {}, settled, sheet, orders)
                else:
                    self.assert_same(first_with(sheet, orders), Drawing(sheet, left[0]))
                    self.assert_same(settled(sheet, orders), [
                        level for level in range(len(sheet)) if len(unlike(left, level)) == 1])
                turned = {level: order[::-1] for level, order in orders.items()}
                self.assert_same(may_be(sheet, turned), bool(left))

    def test_the_largest_small_sheets(self):
        levels = grid(6, 5)
        free = Sheet(levels)
        told = {level: names[::-1] for level, names in enumerate(levels) if level != 2}
        self.assert_same(first_with(free, told), Drawing(free, [*[names[::-1] for names in levels[:2]], levels[2],
                                                                *[names[::-1] for names in levels[3:]]]))
        self.assert_same([settled(free, told), may_be(free, told)], [[0, 1, 3, 4, 5], True])
        self.assertEqual(len(orders_beside(free, 0, levels[0], 5)), 120)
        self.assert_same([are_free(free, 0, 5), are_free(free, 3, 3)], [True, False])

    def test_what_is_passed_stays(self):
        orders, order = {1: ["c", "e", "d"], 0: ["a", "b"]}, ["a", "b"]
        held = copy.deepcopy([orders, order])
        may_be(uneven(), orders), first_with(uneven(), orders), settled(uneven(), orders)
        orders_beside(uneven(), 0, order, 1)
        self.assert_same([orders, order, list(orders)], [*held, [1, 0]])


class BesideTests(Case):
    def test_orders_of(self):
        self.assert_same(orders_of(two(), 0), [["a", "b"], ["b", "a"]])
        self.assert_same(orders_of(level=1, sheet=uneven()),
                         [["c", "d", "e"], ["c", "e", "d"], ["d", "e", "c"], ["e", "d", "c"]])
        self.assert_same([orders_of(square(), 1), orders_of(Sheet([[]]), 0), orders_of(Sheet([["a"], []]), 1)],
                         [[], [[]], [[]]])

    def test_orders_beside(self):
        self.assert_same(orders_beside(two(), 0, ["b", "a"], 1), [["d", "c"]])
        self.assert_same(orders_beside(other=0, order=("c", "e", "d"), level=1, sheet=uneven()), [["a", "b"]])
        self.assert_same(orders_beside(uneven(), 1, ["d", "c", "e"], 0), [])
        self.assert_same(orders_beside(uneven(), 1, ["d", "e", "c"], 1), [["d", "e", "c"]])
        self.assert_same(orders_beside(uneven(), 1, ["d", "c", "e"], 1), [])
        self.assert_same(orders_beside(square(), 0, ["a", "b"], 0), [])

    def test_are_free(self):
        self.assert_same([are_free(two(), 0, 1), are_free(two(), 0, 0)], [False, False])
        self.assert_same(are_free(other=1, one=0, sheet=Sheet([["a", "b"], ["c", "d"]])), True)
        self.assert_same(are_free(Sheet([["a", "b"], ["c", "d"]], [("a", "c")]), 1, 0), True)
        self.assert_same([are_free(square(), one, other) for one in (0, 1) for other in (0, 1)], [True] * 4)
        self.assert_same([are_free(Sheet([["a"], []]), 0, 0), are_free(Sheet([["a"], []]), 1, 1)], [True, True])

    def test_against_all_choices(self):
        for sheet in [*list(sheets_of_two_levels())[::17], *samples(40), *[random_sheet(9, 4, 3, 3)]]:
            choices = clean_choices(sheet)
            levels = range(len(sheet))
            for level in levels:
                told = unlike(choices, level)
                self.assert_same(orders_of(sheet, level), told)
                for other in levels:
                    for order in unlike(every_choice(sheet), level):
                        beside = unlike(having(choices, {level: order}), other)
                        self.assert_same(orders_beside(sheet, level, order, other), beside)
                    free = all(having(having(choices, {level: order}), {other: high})
                               for order in told for high in unlike(choices, other))
                    self.assert_same(are_free(sheet, level, other), free)

    def test_told_lists_are_new(self):
        for told in (orders_of(two(), 0), orders_beside(two(), 0, ["b", "a"], 1), settled(two(), {1: ["c", "d"]})):
            told.reverse()
            told.clear()
        orders_of(two(), 0)[0].clear()
        self.assert_same([orders_of(two(), 0), orders_beside(two(), 0, ["b", "a"], 1)],
                         [[["a", "b"], ["b", "a"]], [["d", "c"]]])


class ErrorTests(Case):
    def test_no_told_orders(self):
        for value in odd_tellings():
            for action in (may_be, first_with, settled):
                self.assert_error(InvalidOrders, {"value": value}, action, uneven(), value)
                self.assert_error(InvalidOrders, {"value": value}, action, orders=value, sheet=uneven())

    def test_no_level(self):
        good = ["a", "b"]
        for value in odd_values() + [2, "0", [0], ["a", "b"]]:
            wrong = {"value": value}
            self.assert_error(InvalidLevel, wrong, orders_of, uneven(), value)
            self.assert_error(InvalidLevel, wrong, orders_beside, uneven(), value, None, None)
            self.assert_error(InvalidLevel, wrong, orders_beside, uneven(), 0, good, value)
            self.assert_error(InvalidLevel, wrong, are_free, uneven(), value, None)
            self.assert_error(InvalidLevel, wrong, are_free, uneven(), 1, value)
            self.assert_error(InvalidLevel, wrong, are_free, uneven(), value, value)

    def test_no_order(self):
        sheet = Sheet([["z"], ["c", "b", "a"]])
        for value in odd_orders() + [["z"], ["a", "b", "z"]]:
            self.assert_error(InvalidOrder, {"value": value}, orders_beside, sheet, 1, value, 0)
            self.assert_error(InvalidOrder, {"value": value}, orders_beside, sheet, 1, value, None)

    def test_bounds(self):
        for sheet in within():
            orders_of(sheet, 0), are_free(sheet, 0, len(sheet) - 1), may_be(sheet, {}), first_with(sheet, {})
            orders_beside(sheet, len(sheet) - 1, sheet.level(len(sheet) - 1), 0)
            if may_be(sheet, {}):
                settled(sheet, {})
        for sheet, told in beyond():
            for action in (may_be, first_with, settled):
                self.assert_error(TooMany, told, action, sheet, {})
                self.assert_error(TooMany, told, action, sheet, {0: sheet.level(0)})
                self.assert_error(InvalidOrders, {"value": {True: []}}, action, sheet, {True: []})
            self.assert_error(TooMany, told, orders_of, sheet, 0)
            self.assert_error(TooMany, told, orders_beside, sheet, 0, sheet.level(0), 0)
            self.assert_error(TooMany, told, are_free, sheet, 0, 0)
            self.assert_error(InvalidLevel, {"value": -1}, orders_of, sheet, -1)
            self.assert_error(InvalidOrder, {"value": None}, orders_beside, sheet, 0, None, 0)
            self.assert_error(InvalidLevel, {"value": -1}, orders_beside, sheet, 0, sheet.level(0), -1)
            self.assert_error(InvalidLevel, {"value": -1}, are_free, sheet, 0, -1)

    def test_too_many_ahead_of_nothing_clean(self):
        levels = grid(2, 6)
        sheet = Sheet(levels, [(low, high) for low in levels[0][:2] for high in levels[1][:2]])
        self.assert_error(TooMany, {"what": "nodes", "limit": 5}, settled, sheet, {})


if __name__ == "__main__":
    unittest.main()
