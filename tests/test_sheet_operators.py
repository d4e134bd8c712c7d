"""The operators of a sheet."""

import unittest

from checking import Case, all_lines, full_sheet, grid, odd_lines, odd_values
from uplines.errors import InvalidLine, InvalidSheet, NameTaken, OtherLevels, TooMany, UnknownLine
from uplines.sheets import Sheet


def plus(one, other):
    return one + other


def minus(one, other):
    return one - other


def beside(one, other):
    return one | other


def on_top(one, other):
    return one >> other


class LineTests(Case):
    def setUp(self):
        self.sheet = Sheet([["a", "b"], ["d", "e"], ["c"]], [("a", "e"), ("d", "c")])

    def test_a_line_more(self):
        for made in (self.sheet + ("a", "d"), ("a", "d") + self.sheet):
            self.assert_same(made, Sheet(self.sheet.levels(), [("a", "d"), ("a", "e"), ("d", "c")]))
        self.assert_same(self.sheet.lines(), [("a", "e"), ("d", "c")])

    def test_a_line_that_is_there(self):
        for made in (self.sheet + ("a", "e"), ("a", "e") + self.sheet):
            self.assert_same(made, self.sheet)
        full = full_sheet()
        self.assertEqual(full + full.lines()[7], full)
        self.assertEqual(full.lines()[7] + full, full)

    def test_in_place(self):
        sheet = self.sheet
        sheet += ("b", "e")
        self.assertIn(("b", "e"), sheet)
        self.assertNotIn(("b", "e"), self.sheet)
        sheet -= ("b", "e")
        self.assertEqual(sheet, self.sheet)

    def test_no_line_that_could_be(self):
        for value in odd_lines() + [("e", "a"), ("a", "c"), ("a", "b"), ("c", "d"), self.sheet]:
            self.assert_error(InvalidLine, {"value": value}, plus, self.sheet, value)
            if not isinstance(value, Sheet):
                self.assert_error(InvalidLine, {"value": value}, plus, value, self.sheet)

    def test_limit(self):
        levels = grid(2, 18)
        lines = all_lines(levels)
        sheet = Sheet(levels, lines[:199]) + lines[199]
        self.assertEqual(len(sheet.lines()), 200)
        self.assert_error(TooMany, {"what": "lines", "limit": 200}, plus, sheet, lines[200])
        self.assert_error(TooMany, {"what": "lines", "limit": 200}, plus, lines[200], sheet)
        self.assert_error(InvalidLine, {"value": ("x", "y")}, plus, sheet, ("x", "y"))

    def test_a_line_less(self):
        made = self.sheet - ("a", "e")
        self.assert_same(made, Sheet(self.sheet.levels(), [("d", "c")]))
        self.assert_same(made - ("d", "c"), Sheet(self.sheet.levels()))
        self.assert_same(self.sheet.lines(), [("a", "e"), ("d", "c")])

    def test_no_line_that_is_there(self):
        for value in odd_lines() + [("a", "d"), ("e", "a"), ["a", "e"], "a", self.sheet]:
            self.assert_error(UnknownLine, {"value": value}, minus, self.sheet, value)


class UpsideDownTests(Case):
    def test_ordinary(self):
        sheet = Sheet([["b", "a"], ["d"], [], ["c"]], [("a", "d"), ("b", "d")])
        self.assert_same(~sheet, Sheet([["c"], [], ["d"], ["a", "b"]], [("d", "a"), ("d", "b")]))
        self.assert_same(~~sheet, sheet)
        self.assert_same(sheet.levels(), [["a", "b"], ["d"], [], ["c"]])

    def test_edges(self):
        self.assert_same(~Sheet([["a"]]), Sheet([["a"]]))
        full = full_sheet()
        self.assertEqual([len((~full).lines()), ~~full], [200, full])


class SideBySideTests(Case):
    def test_ordinary(self):
        one = Sheet([["b"], ["c", "x"]], [("b", "c")])
        other = Sheet([["a", "y"], ["d"]], [("a", "d")])
        wanted = Sheet([["a", "b", "y"], ["c", "d", "x"]], [("a", "d"), ("b", "c")])
        self.assert_same(one | other, wanted)
        self.assert_same(other | one, wanted)
        self.assert_same([one.levels(), other.levels()], [[["b"], ["c", "x"]], [["a", "y"], ["d"]]])

    def test_without_nodes(self):
        self.assert_same(Sheet([[], []]) | Sheet([[], []]), Sheet([[], []]))
        self.assert_same(Sheet([[], ["a"]]) | Sheet([[], []]), Sheet([[], ["a"]]))

    def test_no_sheet(self):
        for value in odd_values() + ["a", ("a", "b"), ["a"], Sheet]:
            if not isinstance(value, Sheet):
                self.assert_error(InvalidSheet, {"value": value}, beside, Sheet([["a"]]), value)
                self.assert_error(InvalidSheet, {"value": value}, on_top, Sheet([["a"]]), value)

    def test_other_levels(self):
        one, other = Sheet([["a"], []]), Sheet([["a"], [], []])
        self.assert_error(OtherLevels, {"one": 2, "other": 3}, beside, one, other)
        self.assert_error(OtherLevels, {"one": 3, "other": 2}, beside, other, one)

    def test_names_in_common(self):
        one = Sheet([["z", "q"], ["b", "c"]])
        other = Sheet([["c", "b"], ["q", "a"]])
        self.assert_error(NameTaken, {"value": "b"}, beside, one, other)
        self.assert_error(NameTaken, {"value": "b"}, beside, other, one)
        self.assert_error(NameTaken, {"value": "b"}, beside, one, one)

    def test_limits(self):
        one = Sheet([[f"a{number}" for number in range(9)]])
        other = Sheet([[f"b{number}" for number in range(9)]])
        self.assertEqual(len((one | other).level(0)), 18)
        self.assert_error(TooMany, {"what": "nodes", "limit": 18}, beside, one, other.with_node(0, "c"))
        self.assert_error(TooMany, {"what": "nodes", "limit": 18}, beside, one.with_node(0, "c"), other)
        self.assert_error(NameTaken, {"value": "c"}, beside, one.with_node(0, "c"), other.with_node(0, "c"))

    def test_limit_of_lines(self):
        left = [[f"a{number}" for number in range(9)], [f"b{number}" for number in range(9)], []]
        left[2] = [f"e{number}" for number in range(9)]
        right = [[f"c{number}" for number in range(9)], [f"d{number}" for number in range(9)], []]
        one, other = Sheet(left, all_lines(left)[:120]), Sheet(right, all_lines(right)[:80])
        self.assertEqual(len((one | other).lines()), 200)
        more = Sheet(right, all_lines(right)[:81])
        self.assert_error(TooMany, {"what": "lines", "limit": 200}, beside, one, more)
        self.assert_error(TooMany, {"what": "lines", "limit": 200}, beside, more, one)


class OnTopTests(Case):
    def test_ordinary(self):
        one = Sheet([["b"], ["c"]], [("b", "c")])
        other = Sheet([["a"], [], ["d", "e"]])
        self.assert_same(one >> other, Sheet([["b"], ["c"], ["a"], [], ["d", "e"]], [("b", "c")]))
        self.assert_same(other >> one, Sheet([["a"], [], ["d", "e"], ["b"], ["c"]], [("b", "c")]))
        self.assert_same([one.levels(), other.levels()], [[["b"], ["c"]], [["a"], [], ["d", "e"]]])

    def test_names_in_common(self):
        one = Sheet([["z", "q"], ["b"], ["c"]])
        other = Sheet([["c", "b"], ["q", "a"]])
        self.assert_error(NameTaken, {"value": "b"}, on_top, one, other)
        self.assert_error(NameTaken, {"value": "b"}, on_top, other, one)

    def test_limits(self):
        one, other = Sheet([["a"]] + [[]] * 5), Sheet([["b"]] + [[]] * 5)
        self.assertEqual(len(one >> other), 12)
        self.assert_error(TooMany, {"what": "levels", "limit": 12}, on_top, one, other.with_level())
        self.assert_error(TooMany, {"what": "levels", "limit": 12}, on_top, one.with_level(), other)
        self.assert_error(NameTaken, {"value": "a"}, on_top, one.with_level(), one)

    def test_limit_of_lines(self):
        left = [[f"a{number}" for number in range(15)], [f"b{number}" for number in range(15)]]
        right = [[f"c{number}" for number in range(15)], [f"d{number}" for number in range(15)]]
        one, other = Sheet(left, all_lines(left)[:150]), Sheet(right, all_lines(right)[:50])
        self.assertEqual(len((one >> other).lines()), 200)
        more = Sheet(right, all_lines(right)[:51])
        self.assert_error(TooMany, {"what": "lines", "limit": 200}, on_top, one, more)


if __name__ == "__main__":
    unittest.main()
