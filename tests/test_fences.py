"""Clean drawings that keep told pairs, fences, and bound pairs."""

import copy
import itertools
import unittest

from checking import Case, grid, odd_pair_lists, odd_pairs, odd_values
from plainly import (
    clean_choices, crossing_lines, every_choice, has_pair, keeping, lists_of_pairs, pairs_of, random_sheet, samples,
)
from small_bounds import beyond, within
from uplines.drawings import Drawing
from uplines.errors import InvalidPair, InvalidPairs, NothingClean, TooMany
from uplines.fences import bound, can_keep, drawing_with, fence, is_bound, is_fence, keeps
from uplines.pairs import does_clash, follows
from uplines.sheets import Sheet


def sheet():
    return Sheet([["a", "b", "c"], ["u", "v"]], [("a", "u"), ("b", "v"), ("c", "v")])


def four():
    """Levels on which the errors' odd values are no pairs."""
    return Sheet([["a", "b"], ["c", "d"]], [("a", "c"), ("b", "d")])


def square():
    return Sheet([["a", "b"], ["c", "d"]], [("a", "c"), ("a", "d"), ("b", "c"), ("b", "d")])


def crosses(told, level, order, upper):
    orders = told.levels()
    orders[level], orders[level + 1] = list(order), list(upper)
    return any(lines[0] in told.gap(level) for lines in crossing_lines(told, orders))


def right(told, pairs, lists):
    """Whether lists of orders are a fence, by the document's words."""
    if not 1 <= len(lists) <= len(told) or lists[-1]:
        return False
    for level, orders in enumerate(lists):
        whole = [list(order) for order in itertools.permutations(told.level(level))]
        if any(list(order) not in whole for order in orders) or len({tuple(order) for order in orders}) < len(orders):
            return False
        for order in whole:
            kept = all(has_pair([order], pair) for pair in pairs if pair[0] in order)
            reached = level == 0 or any(not crosses(told, level - 1, below, order) for below in lists[level - 1])
            if kept and reached and order not in [list(standing) for standing in orders]:
                return False
    return True


class KeepTests(Case):
    def test_keeps(self):
        drawing = Drawing(sheet(), [["b", "a", "c"], ["u", "v"]])
        self.assert_same(keeps(drawing, [("b", "a"), ("a", "c"), ("u", "v")]), True)
        self.assert_same(keeps(drawing, (("b", "a"), ("c", "a"))), False)
        self.assert_same(keeps(pairs=[("v", "u")], drawing=drawing), False)
        self.assert_same([keeps(drawing, []), drawing.is_clean], [True, False])
        for told in samples(15):
            for choice in every_choice(told)[::5]:
                for pairs in lists_of_pairs(told):
                    self.assert_same(keeps(Drawing(told, choice), pairs), keeping([choice], pairs) != [])

    def test_drawing_with(self):
        self.assert_same(drawing_with(sheet(), [("b", "a")]), Drawing(sheet(), [["b", "c", "a"], ["v", "u"]]))
        found = drawing_with(pairs=[("c", "b")], sheet=sheet())
        self.assert_same(found, Drawing(sheet(), [["a", "c", "b"], ["u", "v"]]))
        self.assert_same([drawing_with(sheet(), [("b", "a"), ("a", "c")]), drawing_with(square(), [])], [None, None])
        self.assert_same(can_keep(sheet(), [("b", "a"), ("a", "c")]), False)
        self.assert_same(can_keep(pairs=(), sheet=sheet()), True)

    def test_against_all_choices(self):
        clean = 0
        for told in [*samples(50), *[random_sheet(seed, 4, 3, 3) for seed in range(3)]]:
            choices = clean_choices(told)
            for pairs in lists_of_pairs(told):
                left = keeping(choices, pairs)
                clean += bool(left)
                self.assert_same(can_keep(told, pairs), bool(left))
                self.assert_same(drawing_with(told, pairs), Drawing(told, left[0]) if left else None)
                if left:
                    self.assert_same(keeps(drawing_with(told, pairs), pairs), True)
        self.assertGreater(clean, 100)

    def test_what_follows_is_kept(self):
        for told in samples(20):
            for pairs in lists_of_pairs(told):
                self.assertFalse(can_keep(told, pairs) and does_clash(told, pairs))
                if can_keep(told, pairs):
                    self.assertLessEqual(set(follows(told, pairs)), set(bound(told, pairs)))


class FenceTests(Case):
    def test_ordinary(self):
        told = [("b", "a"), ("a", "c")]
        self.assert_same(is_fence(sheet(), told, fence(sheet(), told)), True)
        self.assert_same([fence(sheet(), [("b", "a")]), fence(pairs=[], sheet=sheet())], [None, None])
        self.assert_same(is_fence(sheet(), told, [[["b", "a", "c"]], []]), True)
        self.assert_same(is_fence(sheet(), told, ((("b", "a", "c"),), ())), True)
        self.assert_same(is_fence(value=[[["b", "a", "c"]], []], pairs=[("b", "a")], sheet=sheet()), False)

    def test_a_fence_or_a_clean_drawing(self):
        some = 0
        for told in [*samples(50), *[random_sheet(seed, 4, 3, 4) for seed in range(3)]]:
            choices = clean_choices(told)
            for pairs in lists_of_pairs(told):
                found = fence(told, pairs)
                self.assertEqual(found is None, keeping(choices, pairs) != [])
                if found is not None:
                    some += 1
                    self.assertTrue(right(told, pairs, found))
                    self.assert_same(is_fence(told, pairs, found), True)
                    self.assertEqual({type(found)} | {type(orders) for orders in found}, {list})
                    self.assertEqual({type(order) for orders in found for order in orders} - {list}, set())
        self.assertGreater(some, 100)

    def test_lists_at_random_are_judged(self):
        seen = []
        for told in samples(20):
            whole = [[list(order) for order in itertools.permutations(names)] for names in told.levels()]
            for pairs in lists_of_pairs(told)[::2]:
                for at in range(12):
                    lists = [orders[:at % (len(orders) + 1)] if at % 3 else orders[at % 2:] for orders in whole]
                    for lists in (lists, lists[:-1] + [[]], lists[:at % 3 + 1], lists[:at % 3] + [[]]):
                        seen.append(right(told, pairs, lists))
                        self.assert_same(is_fence(told, pairs, lists), seen[-1])
        self.assertTrue(20 < seen.count(True) < len(seen) - 20)

    def test_spoilt_in_one_place(self):
        told = [("b", "a"), ("a", "c")]
        shown = [[["b", "a", "c"]], []]
        other = [[["b", "a", "c"], ["a", "b", "c"]], [["u", "v"]]]
        self.assert_same(is_fence(sheet(), told, shown), True)
        for value in [
            [], [[]], [[], []], shown[:1], shown[:1] + [[["u", "v"]]], shown + [[]], [[["b", "a", "c"]] * 2, []],
            [[["b", "a", "c"], ("b", "a", "c")], []], other, [other[0], []], [["b", "a", "c"], []], [[["b", "a"]], []],
            [[["b", "a", "c", "c"]], []], [[["b", "a", "b"]], []], [[["u", "v"]], []], [["bac"], []], [shown[0], None],
            [shown[0], [[]]], [shown[0], ""], [shown[0], {}], [shown[0], False], [{("b", "a", "c"): True}, []],
            [shown[0] + [None], []], [shown[0] + [[]], []], {0: shown[0], 1: []}, shown[0], [[["c", "a", "b"]], []],
        ]:
            self.assert_same(is_fence(sheet(), told, value), False)
        for value in odd_values() + odd_pairs():
            self.assert_same(is_fence(sheet(), told, value), False)
            if value not in ([], ()):
                self.assert_same(is_fence(sheet(), told, [shown[0], value]), False)
            self.assert_same(is_fence(sheet(), told, [[["b", "a", "c"], value], []]), False)
            self.assert_same(is_fence(sheet(), told, [value, []]), False)

    def test_others_may_stand_there(self):
        told = [("b", "a"), ("a", "c")]
        self.assert_same(is_fence(sheet(), told, [[["c", "a", "b"], ["b", "a", "c"]], []]), True)
        self.assert_same(is_fence(sheet(), told, [[["a", "b", "c"], ["b", "a", "c"]], []]), False)
        self.assert_same(is_fence(square(), [("a", "b")], [[["a", "b"]], []]), True)
        self.assert_same(is_fence(square(), [("a", "b")], [[["b", "a"], ["a", "b"]], []]), True)
        self.assert_same(is_fence(square(), [], [[["a", "b"]], []]), False)

    def test_clashing_pairs(self):
        told = [("b", "a"), ("a", "b")]
        self.assert_same([fence(sheet(), told), is_fence(sheet(), told, [[]]), is_fence(sheet(), told, [[], []])],
                         [[[]], True, True])
        self.assert_same([is_fence(sheet(), told, [[], [], []]), is_fence(sheet(), told, [])], [False, False])

    def test_levels_without_nodes(self):
        told = Sheet([[], ["a", "b"]])
        pairs = [("a", "b"), ("b", "a")]
        self.assert_same(fence(told, pairs), [[[]], []])
        self.assert_same([is_fence(told, pairs, [[()], []]), is_fence(told, pairs, [[], []])], [True, False])
        self.assert_same(fence(Sheet([[]]), []), None)

    def test_the_largest_small_sheets(self):
        levels = grid(6, 5)
        lines = [(names[at], more[at + by]) for names, more in zip(levels, levels[1:])
                 for at in range(5) for by in (0, 1) if at + by < 5]
        stairs = Sheet(levels, lines)
        pairs = [tuple(levels[0][:2]), tuple(levels[5][1::-1])]
        found = fence(stairs, pairs)
        self.assert_same([is_fence(stairs, pairs, found), can_keep(stairs, pairs)], [True, False])
        free = Sheet(levels)
        ring = [tuple(levels[5][:2]), tuple(levels[5][1:3]), (levels[5][2], levels[5][0])]
        found = fence(free, ring)
        self.assert_same([[len(orders) for orders in found], is_fence(free, ring, found)], [[120] * 5 + [0], True])

    def test_what_is_passed_stays(self):
        told, shown = [("b", "a"), ("a", "c")], [[["b", "a", "c"]], []]
        held = copy.deepcopy([told, shown])
        is_fence(sheet(), told, shown)
        fence(sheet(), told)[0].clear()
        bound(sheet(), [("a", "b")]).clear()
        self.assert_same([told, shown], held)
        self.assert_same([len(fence(sheet(), told)[0]), len(bound(sheet(), [("a", "b")]))], [1, 3])


class BoundTests(Case):
    def test_ordinary(self):
        self.assert_same(bound(sheet(), [("a", "b")]), [("a", "b"), ("a", "c"), ("u", "v")])
        self.assert_same([bound(sheet(), []), bound(Sheet([[]]), [])], [[], []])
        self.assert_same(is_bound(sheet(), [("a", "b")], ("u", "v")), True)
        self.assert_same(is_bound(pair=("b", "c"), pairs=[("a", "b")], sheet=sheet()), False)
        self.assert_same(is_bound(square(), [], ("a", "b")), False)
        self.assert_same(is_bound(sheet(), [("a", "b"), ("b", "a")], ("a", "b")), False)
        self.assert_error(NothingClean, {}, bound, square(), [])
        self.assert_error(NothingClean, {}, bound, sheet(), [("a", "b"), ("b", "a")])

    def test_against_all_choices(self):
        for told in samples(50):
            choices = clean_choices(told)
            for pairs in lists_of_pairs(told):
                left = keeping(choices, pairs)
                wanted = [pair for pair in sorted(pairs_of(told)) if all(has_pair(choice, pair) for choice in left)]
                if left:
                    self.assert_same(bound(pairs=pairs, sheet=told), wanted)
                else:
                    self.assert_error(NothingClean, {}, bound, told, pairs)
                for pair in pairs_of(told):
                    self.assert_same(is_bound(told, pairs, pair), bool(left) and pair in wanted)
                    if left:
                        turned = fence(told, pairs + [pair[::-1]])
                        self.assertEqual(turned is not None, pair in wanted)


class ErrorTests(Case):
    def test_no_pairs(self):
        for position, value in odd_pair_lists():
            wrong = {"position": position}
            for action in (drawing_with, can_keep, fence, bound):
                self.assert_error(InvalidPairs, wrong, action, four(), value)
                self.assert_error(InvalidPairs, wrong, action, pairs=value, sheet=four())
            self.assert_error(InvalidPairs, wrong, keeps, Drawing.plain(four()), value)
            self.assert_error(InvalidPairs, wrong, is_fence, four(), value, None)
            self.assert_error(InvalidPairs, wrong, is_bound, four(), value, None)

    def test_no_pair(self):
        for value in odd_pairs():
            for pairs in ([], [("a", "b"), ("b", "a")]):
                self.assert_error(InvalidPair, {"value": value}, is_bound, four(), pairs, value)

    def test_bounds(self):
        for told in within():
            drawing_with(told, []), can_keep(told, told.pairs()), is_fence(told, [], fence(told, []))
            keeps(Drawing.plain(told), told.pairs())
            if can_keep(told, []):
                self.assertEqual(bound(told, []), [])
        for told, wrong in beyond():
            for action in (drawing_with, can_keep, fence, bound):
                self.assert_error(TooMany, wrong, action, told, [])
                self.assert_error(TooMany, wrong, action, told, told.pairs())
                self.assert_error(InvalidPairs, {"position": 0}, action, told, [None])
            self.assert_error(TooMany, wrong, keeps, Drawing.plain(told), [])
            self.assert_error(InvalidPairs, {"position": None}, keeps, Drawing.plain(told), None)
            self.assert_error(TooMany, wrong, is_fence, told, [], None)
            self.assert_error(InvalidPairs, {"position": None}, is_fence, told, 0, None)
            for pair in told.pairs()[:1]:
                self.assert_error(TooMany, wrong, is_bound, told, [], pair)
            self.assert_error(InvalidPair, {"value": None}, is_bound, told, [], None)

    def test_too_many_ahead_of_nothing_clean(self):
        levels = grid(2, 6)
        told = Sheet(levels, [(low, high) for low in levels[0][:2] for high in levels[1][:2]])
        self.assert_error(TooMany, {"what": "nodes", "limit": 5}, bound, told, [])


if __name__ == "__main__":
    unittest.main()
