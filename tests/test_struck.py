"""Struck lines: which help, which lists are narrow and least, which lines are surely struck."""

import copy
import itertools
import unittest

from checking import Case, full_sheet, grid, odd_counts, odd_lines, odd_values
from small_bounds import beyond
from striking import (
    Plainly, apart, few_lines, four, free, many_clean_lines, many_lines, mixed, square, sure, three, uneven, wide,
)
from uplines.clean import has_clean
from uplines.errors import InvalidLines, InvalidNumber, TooMany
from uplines.sheets import Sheet
from uplines.struck import (
    Strike, fewest, helps, is_narrow, is_tree_against, least_lists, may_be_struck, narrow_lists, surely_struck,
    tree_against, without,
)

ALL_FIVE = (fewest, least_lists, surely_struck, may_be_struck)


class HelpTests(Case):
    def test_ordinary(self):
        self.assert_same([helps(square(), []), helps(square(), [("a", "c")]), helps(square(), square().lines())],
                         [False, True, True])
        self.assert_same([helps(wide(), [("a", "c")]), helps(some=(("a", "d"), ("b", "e")), sheet=wide())],
                         [False, True])
        self.assert_same([helps(free(), []), helps(Sheet([[]]), ())], [True, True])

    def test_without(self):
        found = without(square(), [("b", "d"), ("a", "c")])
        self.assert_same(found, Sheet([["a", "b"], ["c", "d"]], [("a", "d"), ("b", "c")]))
        self.assert_same(without(some=(), sheet=square()), square())
        tall = Sheet([["a"], [], ["b"], ["c"]], [("b", "c")])
        self.assert_same(without(tall, [("b", "c")]), Sheet([["a"], [], ["b"], ["c"]]))

    def test_is_narrow(self):
        self.assert_same(is_narrow(square(), [("a", "c")]), True)
        self.assert_same(is_narrow(square(), [("a", "c"), ("b", "d")]), False)
        self.assert_same(is_narrow(some=[], sheet=square()), False)
        self.assert_same([is_narrow(free(), []), is_narrow(Sheet.chain("a", "b"), [("a", "b")])], [True, False])

    def test_narrow_but_not_least(self):
        plain = Plainly(uneven())
        longer = [some for some in plain.narrow(6) if len(some) > len(plain.least()[0])]
        self.assertGreater(len(longer), 0)
        for some in longer:
            self.assert_same([is_narrow(uneven(), some), some in least_lists(uneven())], [True, False])

    def test_against_all_choices(self):
        for told in few_lines():
            plain = Plainly(told)
            self.assertEqual(has_clean(told), set() in plain.helping)
            for many in range(len(plain.lines) + 1):
                for some in list(itertools.combinations(plain.lines, many))[::1 + many]:
                    self.assert_same(helps(told, some), plain.helps(some))
                    self.assert_same(helps(told, list(some)[::-1]), has_clean(without(told, some)))
                    self.assert_same(is_narrow(told, some), plain.is_narrow(some))

    def test_great_sheets(self):
        told = full_sheet()
        self.assert_same([helps(told, []), helps(told, told.lines())], [False, True])
        self.assert_same([is_narrow(told, told.lines()), len(without(told, told.lines()[:150]).lines())], [False, 50])

    def test_what_is_passed_stays(self):
        some = [("b", "d"), ("a", "c")]
        held = copy.deepcopy(some)
        helps(square(), some), without(square(), some), is_narrow(square(), some)
        self.assert_same(some, held)


class LeastTests(Case):
    def test_ordinary(self):
        self.assert_same([fewest(square()), fewest(wide()), fewest(three()), fewest(sheet=four())], [1, 2, 3, None])
        self.assert_same(least_lists(square()), [[("a", "c")], [("a", "d")], [("b", "c")], [("b", "d")]])
        self.assert_same([len(least_lists(wide())), least_lists(sheet=four())], [12, []])
        self.assert_same([surely_struck(square()), surely_struck(sheet=four())], [[], None])
        self.assert_same([may_be_struck(square()), may_be_struck(sheet=four())], [square().lines(), None])

    def test_with_a_clean_drawing(self):
        for told in (free(), Sheet([[]]), Sheet.chain("a", "b", "c"), many_clean_lines(24)):
            self.assert_same([fewest(told), least_lists(told), surely_struck(told), may_be_struck(told)],
                             [0, [[]], [], []])
            self.assert_same([narrow_lists(told, most) for most in range(4)], [[[]]] * 4)

    def test_surely_struck(self):
        self.assert_same([surely_struck(sure()), may_be_struck(sure())], [[("a2", "b0")]] * 2)
        self.assertEqual(Plainly(sure()).least(), [[("a2", "b0")]])
        self.assert_same(may_be_struck(wide()), wide().lines())

    def test_against_all_choices(self):
        seen = []
        for told in few_lines():
            plain = Plainly(told)
            least = plain.least()
            seen.append(len(least[0]))
            enough = len(least[0]) <= 3
            lines = [line for some in least for line in some]
            self.assert_same(fewest(told), len(least[0]) if enough else None)
            self.assert_same(least_lists(told), least if enough else [])
            self.assert_same(surely_struck(told), [
                line for line in told.lines() if lines.count(line) == len(least)] if enough else None)
            self.assert_same(may_be_struck(told), sorted(set(lines)) if enough else None)
            for most in range(4):
                self.assert_same(narrow_lists(told, most), plain.narrow(most))
            for some in least_lists(told):
                self.assertTrue(is_narrow(told, some) and helps(told, some))
        self.assertEqual(set(seen), {0, 1, 2, 3})

    def test_narrow_lists_with_lines_in_common(self):
        found = narrow_lists(mixed(), 3)
        self.assert_same(found, Plainly(mixed()).narrow(3))
        self.assertTrue(any(len(some) == 2 and len(more) == 3 and set(some) & set(more)
                            for some in found for more in found))

    def test_narrow_lists(self):
        self.assert_same([narrow_lists(wide(), most) for most in (0, 1)], [[], []])
        self.assert_same(narrow_lists(most=2, sheet=wide()), least_lists(wide()))
        self.assert_same(narrow_lists(four(), 3), [])
        for value in odd_counts() + [4, 5, 10 ** 29, "2", [2]]:
            self.assert_error(InvalidNumber, {"value": value}, narrow_lists, square(), value)
            self.assert_error(InvalidNumber, {"value": value}, narrow_lists, most=value, sheet=many_lines(25))

    def test_sheets_that_are_not_small(self):
        levels = grid(12, 18)
        told = Sheet(levels, [(low, high) for low in levels[10][:2] for high in levels[11][:2]] + [
            (levels[0][5], levels[1][9])])
        self.assert_same([fewest(told), len(least_lists(told)), len(may_be_struck(told))], [1, 4, 4])
        self.assert_same([fewest(apart(3)), fewest(apart(4)), len(least_lists(apart(3)))], [3, None, 64])

    def test_24_lines_and_25(self):
        for told in (many_lines(24), many_clean_lines(24), apart(6)):
            self.assertEqual(len(told.lines()), 24)
            for action in ALL_FIVE:
                action(told)
            narrow_lists(told, 3), tree_against(told, 2), is_tree_against(told, 2, None)
        self.assert_same([fewest(many_lines(24)), fewest(many_clean_lines(24))], [None, 0])
        for told in (many_lines(25), many_clean_lines(25), many_clean_lines(33), full_sheet()):
            wrong = {"what": "lines", "limit": 24}
            for action in ALL_FIVE:
                self.assert_error(TooMany, wrong, action, told)
                self.assert_error(TooMany, wrong, action, sheet=told)
            for number in range(3):
                self.assert_error(TooMany, wrong, narrow_lists, told, number)
                self.assert_error(TooMany, wrong, tree_against, told, number)
                self.assert_error(TooMany, wrong, is_tree_against, told, number, None)
            self.assert_same(helps(told, told.lines()), True)

    def test_told_lists_are_new(self):
        least_lists(square())[0].clear(), narrow_lists(square(), 1)[0].clear()
        surely_struck(square()).append(1), may_be_struck(square()).clear()
        self.assert_same([least_lists(square())[0], narrow_lists(square(), 1)[0]], [[("a", "c")], [("a", "c")]])
        self.assert_same([surely_struck(square()), len(may_be_struck(square()))], [[], 4])


class ErrorTests(Case):
    def sheet(self):
        """In which the errors' odd values are no lines, but a to d is one."""
        return Sheet([["a", "b"], ["c", "d"]], [("a", "d"), ("b", "c")])

    def test_no_lines(self):
        told = self.sheet()
        for action in (helps, without, is_narrow):
            for value in odd_values() + ["ad", {("a", "d"): True}, b"ad", told, 0]:
                if not isinstance(value, (list, tuple)):
                    self.assert_error(InvalidLines, {"position": None}, action, told, value)
                    self.assert_error(InvalidLines, {"position": None}, action, some=value, sheet=told)
            for value in odd_lines() + [("a", "c"), ("d", "a"), ("a", "b"), "a", "d"]:
                self.assert_error(InvalidLines, {"position": 0}, action, told, [value])
                self.assert_error(InvalidLines, {"position": 1}, action, told, [("a", "d"), value])
                self.assert_error(InvalidLines, {"position": 1}, action, told, (("b", "c"), value, None))

    def test_a_strike_is_no_list(self):
        one = Strike(square(), ("a", "c"))
        for action in (helps, without, is_narrow):
            self.assert_error(InvalidLines, {"position": None}, action, square(), one)
            self.assert_error(InvalidLines, {"position": 0}, action, square(), [one])
            self.assert_same(action(square(), list(one)), action(square(), [("a", "c")]))
        self.assert_error(InvalidLines, {"position": 0}, Strike, square(), one)

    def test_lines_that_stand_ahead(self):
        told = self.sheet()
        for action in (helps, without, is_narrow):
            self.assert_error(InvalidLines, {"position": 1}, action, told, [("a", "d"), ("a", "d")])
            self.assert_error(InvalidLines, {"position": 2}, action, told, [("a", "d"), ("b", "c"), ("a", "d"), None])
            self.assert_error(InvalidLines, {"position": 0}, action, told, ("a", "d"))

    def test_sheets_beyond_small_are_let(self):
        for told, _ in beyond():
            self.assert_same(helps(told, told.lines()), True)
            self.assert_same(without(told, []), told)


if __name__ == "__main__":
    unittest.main()
