"""New lines: which may come, which are refused, foes, and filled sheets."""

import copy
import itertools
import unittest

from checking import Case, all_lines, full_sheet, grid, odd_lines, odd_values
from plainly import clean_choices, samples, sheets_of_two_levels
import reading
from small_bounds import beyond, within
from spoiling import spoilt
from uplines.clean import has_clean
from uplines.errors import InvalidLine, InvalidLines, NothingClean, TooMany
from uplines.more import (
    are_together, coming, filled, foes, is_refusal, may_come, new_lines, refusal, refused,
)
from uplines.sheets import Sheet


def sheet():
    return Sheet([["b", "a"], ["c", "d"]], [("b", "c"), ("a", "d")])


def square():
    return Sheet([["a", "b"], ["c", "d"]], [("a", "c"), ("a", "d"), ("b", "c"), ("b", "d")])


def crossed():
    return Sheet([["a", "b", "e"], ["c", "d"]], square().lines())


def new_plainly(told):
    return [line for line in sorted(all_lines(told.levels())) if line not in told.lines()]


def with_all(told, lines):
    return Sheet(told.levels(), told.lines() + list(lines))


def is_clean(told, lines):
    """Whether the sheet with some lines more has a clean drawing, by all choices."""
    return bool(clean_choices(with_all(told, lines)))


def plenty():
    return [*samples(30), *list(sheets_of_two_levels())[5::31], crossed()]


class ComeTests(Case):
    def test_ordinary(self):
        self.assert_same([may_come(sheet(), ("a", "c")), refusal(sheet(), ("a", "c"))], [True, None])
        both = sheet() + ("a", "c")
        self.assert_same(may_come(line=("b", "d"), sheet=both), False)
        self.assertTrue(reading.is_change(square(), refusal(line=("b", "d"), sheet=both)))
        self.assert_same(is_refusal(both, ("b", "d"), [("d", "c"), ("a", "b"), ("c", "d")]), True)
        self.assert_same(is_refusal(value=[("d", "c"), ("a", "b")], line=("b", "d"), sheet=both), False)

    def test_against_all_choices(self):
        seen = []
        for told in plenty():
            for line in new_plainly(told):
                seen.append(is_clean(told, [line]))
                self.assert_same(may_come(told, line), seen[-1])
                found = refusal(told, line)
                self.assertEqual(found is None, seen[-1])
                if found is not None:
                    self.assertTrue(reading.is_change(told + line, found))
                    self.assert_same(is_refusal(told, line, found), True)
                    if has_clean(told):
                        self.assertIn(line, reading.passed(told + line, found))
        self.assertGreater(min(seen.count(True), seen.count(False)), 30)

    def test_any_values(self):
        both = sheet() + ("a", "c")
        for value in spoilt(refusal(both, ("b", "d"))):
            self.assert_same(is_refusal(both, ("b", "d"), value), reading.is_change(square(), value))
        for value in odd_values():
            self.assert_same(is_refusal(both, ("b", "d"), value), False)

    def test_a_change_that_was_there(self):
        """Without a clean drawing each new line is refused, and any change shows it."""
        walk = [("a", "b"), ("c", "d"), ("b", "a")]
        self.assert_same([may_come(crossed(), ("e", "c")), is_refusal(crossed(), ("e", "c"), walk)], [False, True])

    def test_sheets_that_are_not_small(self):
        levels = grid(12, 18)
        told = Sheet(levels, [(low, high) for low, high in zip(levels[10], levels[11])])
        line, other = (levels[10][17], levels[11][0]), (levels[10][0], levels[11][17])
        self.assert_same([may_come(told, line), may_come(told + line, other), refusal(told, line)], [True, False, None])
        found = refusal(told + line, other)
        self.assert_same([is_refusal(told + line, other, found), are_together(told, [line, other])], [True, False])
        self.assert_same(are_together(told, [line]), True)

    def test_no_new_line(self):
        told = Sheet([["a", "b", "e"], ["c", "d"]], [("a", "d")])
        for value in odd_lines() + [("a", "d"), ("d", "a"), "a", ("a", "b"), ("c", "d")]:
            for action in (may_come, refusal):
                self.assert_error(InvalidLine, {"value": value}, action, told, value)
                self.assert_error(InvalidLine, {"value": value}, action, line=value, sheet=told)
            self.assert_error(InvalidLine, {"value": value}, is_refusal, told, value, [])

    def test_lines_over_two_levels(self):
        told = Sheet([["a"], ["b"], ["c"]])
        for value in [("a", "c"), ("c", "b"), ("b", "a")]:
            self.assert_error(InvalidLine, {"value": value}, may_come, told, value)
        self.assert_same([may_come(told, ("a", "b")), may_come(told, ("b", "c"))], [True, True])

    def test_200_lines(self):
        told = full_sheet()
        line = new_plainly(told)[0]
        wrong = {"what": "lines", "limit": 200}
        for action, passed in [(may_come, [line]), (refusal, [line]), (is_refusal, [line, None])]:
            self.assert_error(TooMany, wrong, action, told, *passed)
            self.assert_error(InvalidLine, {"value": told.lines()[0]}, action, told, told.lines()[0], *passed[1:])
        less = told - told.lines()[0]
        self.assert_same([may_come(less, told.lines()[0]), may_come(less, line)], [False, False])
        self.assert_same(is_refusal(less, line, refusal(less, line)), True)
        self.assert_error(TooMany, wrong, are_together, less, [told.lines()[0], line])
        self.assert_error(InvalidLines, {"position": 2}, are_together, less, [told.lines()[0], line, line])
        self.assert_same(are_together(less, [line]), False)
        self.assert_same(are_together(told, []), False)


class TogetherTests(Case):
    def test_ordinary(self):
        self.assert_same(are_together(sheet(), [("a", "c"), ("b", "d")]), False)
        self.assert_same(are_together(lines=(("a", "c"),), sheet=sheet()), True)
        self.assert_same([are_together(sheet(), []), are_together(square(), ())], [True, False])

    def test_against_all_choices(self):
        for told in plenty()[::2]:
            lines = new_plainly(told)
            for many in range(4):
                for some in list(itertools.combinations(lines, many))[::1 + many * 2]:
                    self.assert_same(are_together(told, list(some)), is_clean(told, some))

    def test_no_lines(self):
        told = Sheet([["a", "b", "e"], ["c", "d"]], [("a", "d")])
        for value in odd_values() + ["ac", {("a", "c"): True}, told]:
            if not isinstance(value, (list, tuple)):
                self.assert_error(InvalidLines, {"position": None}, are_together, told, value)
                self.assert_error(InvalidLines, {"position": None}, are_together, lines=value, sheet=told)
        for value in odd_lines() + [("a", "d"), ("c", "a"), "a"]:
            self.assert_error(InvalidLines, {"position": 0}, are_together, told, [value])
            self.assert_error(InvalidLines, {"position": 1}, are_together, told, (("b", "c"), value, None))
        self.assert_error(InvalidLines, {"position": 1}, are_together, told, [("b", "c"), ("b", "c")])
        self.assert_error(InvalidLines, {"position": 2}, are_together, told, [("b", "c"), ("b", "d"), ("b", "c")])

    def test_what_is_passed_stays(self):
        lines = [("b", "d"), ("a", "c")]
        held = copy.deepcopy(lines)
        are_together(sheet(), lines)
        self.assert_same(lines, held)


class SmallTests(Case):
    def test_ordinary(self):
        self.assert_same(new_lines(sheet()), [("a", "c"), ("b", "d")])
        self.assert_same([coming(sheet()), refused(sheet=sheet())], [[("a", "c"), ("b", "d")], []])
        self.assert_same(foes(sheet=sheet()), [(("a", "c"), ("b", "d"))])
        self.assert_same(filled(sheet=sheet()).lines(), [("a", "c"), ("a", "d"), ("b", "c")])
        self.assert_same([new_lines(square()), coming(sheet=square()), refused(square()), foes(square())], [[]] * 4)

    def test_without_lines_and_nodes(self):
        for told in (Sheet([[]]), Sheet([["a", "b"]]), Sheet([["a"], [], ["b"]])):
            self.assert_same([new_lines(told), coming(told), refused(told), foes(told), filled(told)],
                             [[], [], [], [], told])
        self.assert_same(new_lines(Sheet([["b", "a"], ["c"]])), [("a", "c"), ("b", "c")])

    def test_without_a_clean_drawing(self):
        self.assert_same([coming(crossed()), refused(crossed()), foes(crossed())],
                         [[], [("e", "c"), ("e", "d")], []])
        self.assert_error(NothingClean, {}, filled, crossed())
        self.assert_error(NothingClean, {}, filled, sheet=square())

    def test_against_all_choices(self):
        some = 0
        for told in plenty():
            lines = new_plainly(told)
            come = [line for line in lines if is_clean(told, [line])]
            self.assert_same(new_lines(told), lines)
            self.assert_same(coming(told), come)
            self.assert_same(refused(told), [line for line in lines if line not in come])
            wanted = [both for both in itertools.combinations(come, 2) if not is_clean(told, both)]
            some += len(wanted)
            self.assert_same(foes(told), wanted)
        self.assertGreater(some, 50)

    def test_filled(self):
        for told in plenty():
            if not clean_choices(told):
                self.assert_error(NothingClean, {}, filled, told)
            else:
                wanted = []
                for line in new_plainly(told):
                    if is_clean(told, wanted + [line]):
                        wanted.append(line)
                self.assert_same(filled(told), with_all(told, wanted))
                self.assert_same([has_clean(filled(told)), coming(filled(told))], [True, []])

    def test_bounds(self):
        for told in within():
            lines = new_lines(told)
            self.assertEqual(len(lines), len(new_plainly(told)))
            if has_clean(told):
                self.assertTrue(has_clean(filled(told)))
            self.assertEqual(sorted(coming(told) + refused(told)), lines)
        for told, wrong in beyond():
            for action in (new_lines, coming, refused, foes):
                self.assert_error(TooMany, wrong, action, told)
            if told.lines():
                self.assert_error(NothingClean, {}, filled, told)
            else:
                self.assert_error(TooMany, wrong, filled, told)

    def test_sheets_with_lines_put_in_need_not_be_small(self):
        levels = grid(2, 5)
        told = Sheet(levels, all_lines(levels)[:12])
        self.assert_same(len(refused(told)), 13)
        path = Sheet(levels, [(levels[0][at], levels[1][at + by]) for at in range(5) for by in (0, 1) if at + by < 5])
        self.assert_same([len(path.lines()), coming(path), filled(path)], [9, [], path])
        three = Sheet(grid(3, 5), all_lines(grid(3, 5)[:2])[:12])
        self.assert_same([coming(three), len(refused(three))], [[], 38])

    def test_told_lists_are_new(self):
        for action in (new_lines, coming, foes):
            action(sheet()).clear()
            self.assertTrue(action(sheet()))
        refused(crossed()).clear()
        self.assertEqual(len(refused(crossed())), 2)


if __name__ == "__main__":
    unittest.main()
