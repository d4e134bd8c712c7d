"""Sheets with other nodes, levels and lines than the one that they come from."""

import unittest

from checking import Case, all_lines, full_sheet, grid, odd_lines, odd_values
from uplines.errors import InvalidLevel, InvalidLines, InvalidName, NameTaken, TooMany, UnknownNode
from uplines.sheets import Sheet


class Changed(Case):
    def setUp(self):
        self.sheet = Sheet([["b", "a"], ["d", "e"], ["c"]], [("a", "d"), ("b", "d"), ("d", "c")])
        self.before = repr(self.sheet)

    def tearDown(self):
        self.assertEqual(repr(self.sheet), self.before)


class WithNodeTests(Changed):
    def test_ordinary(self):
        made = self.sheet.with_node(1, "aa")
        self.assert_same(made.levels(), [["a", "b"], ["aa", "d", "e"], ["c"]])
        self.assert_same(made.lines(), self.sheet.lines())
        self.assert_same(self.sheet.with_node(name="x", level=0).levels(), [["a", "b", "x"], ["d", "e"], ["c"]])
        self.assert_same(Sheet([[]]).with_node(0, "x").levels(), [["x"]])

    def test_no_level(self):
        for value in odd_values() + [3, -1, -3, "a", ["a"]]:
            for name in ("x", "a", None):
                self.assert_error(InvalidLevel, {"value": value}, self.sheet.with_node, value, name)

    def test_no_name(self):
        for value in odd_values() + [0, ["a"], ("a", "b")]:
            self.assert_error(InvalidName, {"value": value}, self.sheet.with_node, 1, value)

    def test_name_taken(self):
        for name in self.sheet:
            for level in range(3):
                self.assert_error(NameTaken, {"value": name}, self.sheet.with_node, level, name)

    def test_limit(self):
        full = full_sheet()
        self.assertEqual(len(full.without_node("n03x00").with_node(3, "x").level(3)), 18)
        for level in range(12):
            self.assert_error(TooMany, {"what": "nodes", "limit": 18}, full.with_node, level, "x")
        self.assert_error(NameTaken, {"value": "n03x00"}, full.with_node, 3, "n03x00")
        self.assert_error(InvalidName, {"value": "X"}, full.with_node, 3, "X")
        self.assert_error(InvalidLevel, {"value": 12}, full.with_node, 12, "n03x00")


class WithoutNodeTests(Changed):
    def test_ordinary(self):
        self.assert_same(self.sheet.without_node("d"), Sheet([["a", "b"], ["e"], ["c"]]))
        self.assert_same(self.sheet.without_node(node="a"),
                         Sheet([["b"], ["d", "e"], ["c"]], [("b", "d"), ("d", "c")]))
        self.assert_same(self.sheet.without_node("c"), Sheet([["a", "b"], ["d", "e"], []], [("a", "d"), ("b", "d")]))
        self.assert_same(Sheet([["x"]]).without_node("x"), Sheet([[]]))

    def test_no_node(self):
        for value in odd_values() + ["x", "ab", ("a",), ["a"], ("a", "d"), 0]:
            self.assert_error(UnknownNode, {"value": value}, self.sheet.without_node, value)


class WithLevelTests(Changed):
    def test_ordinary(self):
        made = self.sheet.with_level()
        self.assert_same(made, Sheet(self.sheet.levels() + [[]], self.sheet.lines()))

    def test_limit(self):
        self.assertEqual(len(Sheet([[]] * 11).with_level()), 12)
        self.assert_error(TooMany, {"what": "levels", "limit": 12}, Sheet([[]] * 12).with_level)


class CutTests(Changed):
    def test_ordinary(self):
        self.assert_same(self.sheet.cut(0, 2), self.sheet)
        self.assert_same(self.sheet.cut(0, 1), Sheet([["a", "b"], ["d", "e"]], [("a", "d"), ("b", "d")]))
        self.assert_same(self.sheet.cut(last=2, first=1), Sheet([["d", "e"], ["c"]], [("d", "c")]))
        self.assert_same(self.sheet.cut(1, 1), Sheet([["d", "e"]]))

    def test_no_level(self):
        for value in odd_values() + [3, -3, "a", ["a"]]:
            for other in (0, 2, None, 7):
                self.assert_error(InvalidLevel, {"value": value}, self.sheet.cut, value, other)
            for first in range(3):
                self.assert_error(InvalidLevel, {"value": value}, self.sheet.cut, first, value)

    def test_last_less_than_first(self):
        for first, last in [(1, 0), (2, 0), (2, 1)]:
            self.assert_error(InvalidLevel, {"value": last}, self.sheet.cut, first, last)


class JoinedTests(Changed):
    def test_ordinary(self):
        made = self.sheet.joined([("b", "e"), ("a", "d"), ("e", "c"), ("b", "e")])
        self.assert_same(made.lines(), [("a", "d"), ("b", "d"), ("b", "e"), ("d", "c"), ("e", "c")])
        self.assert_same(made.levels(), self.sheet.levels())

    def test_none_and_tuples(self):
        self.assert_same(self.sheet.joined([]), self.sheet)
        self.assert_same(self.sheet.joined(()), self.sheet)
        self.assert_same(self.sheet.joined(lines=(("b", "e"),)), self.sheet + ("b", "e"))

    def test_no_list(self):
        for value in [None, True, 0, 4, "", "ad", {}, {("a", "e"): 1}, self.sheet, b""]:
            self.assert_error(InvalidLines, {"position": None}, self.sheet.joined, value)

    def test_no_line_that_could_be(self):
        for value in odd_lines() + [("d", "a"), ("a", "c"), ("a", "b"), ["a", "e"]]:
            self.assert_error(InvalidLines, {"position": 0}, self.sheet.joined, [value])
            self.assert_error(
                InvalidLines, {"position": 3}, self.sheet.joined,
                [("a", "e"), ("a", "d"), ("a", "e"), value, None],
            )

    def test_copies_what_it_is_given(self):
        lines = [("b", "e")]
        made = self.sheet.joined(lines)
        lines.append(("e", "c"))
        self.assertEqual(made, self.sheet + ("b", "e"))

    def test_limit(self):
        levels = grid(2, 18)
        lines = all_lines(levels)
        sheet = Sheet(levels, lines[:150])
        full = sheet.joined(lines[100:200] + lines[100:200])
        self.assertEqual(full.lines(), lines[:200])
        self.assertEqual(full.joined(lines[:200]), full)
        self.assert_error(TooMany, {"what": "lines", "limit": 200}, sheet.joined, lines[:201])
        self.assert_error(TooMany, {"what": "lines", "limit": 200}, full.joined, [lines[200]])
        self.assert_error(InvalidLines, {"position": 324}, sheet.joined, lines + ["ab"])


class UnchangedTests(Changed):
    def test_elder_sheets_stay(self):
        levels, lines = self.sheet.levels(), self.sheet.lines()
        made = [self.sheet + ("a", "e"), self.sheet - ("a", "d"), ~self.sheet, self.sheet | Sheet([["x"], [], []]),
                self.sheet >> Sheet([["x"]]), self.sheet.with_node(0, "x"), self.sheet.without_node("a"),
                self.sheet.with_level(), self.sheet.cut(0, 1), self.sheet.joined([("a", "e")])]
        told = [repr(sheet) for sheet in made]
        for sheet in made:
            self.assertIsNot(sheet, self.sheet)
            for names in sheet.levels():
                names.append("zz")
            sheet.lines().append(("a", "zz"))
        self.assertEqual([repr(sheet) for sheet in made], told)
        self.assertEqual((self.sheet.levels(), self.sheet.lines()), (levels, lines))

    def test_errors_change_nothing(self):
        for wrong in (lambda: self.sheet + ("a", "c"), lambda: self.sheet - ("a", "e"),
                      lambda: self.sheet | self.sheet, lambda: self.sheet >> self.sheet,
                      lambda: self.sheet.with_node(0, "a"), lambda: self.sheet.without_node("x"),
                      lambda: self.sheet.cut(2, 1), lambda: self.sheet.joined([("a", "e"), None])):
            with self.assertRaises((ValueError, LookupError, RuntimeError)):
                wrong()
            self.assertEqual(repr(self.sheet), self.before)

    def test_called_again(self):
        for read in (self.sheet.levels, self.sheet.lines, self.sheet.pairs, self.sheet.parts, self.sheet.with_level):
            self.assert_same(read(), read())


if __name__ == "__main__":
    unittest.main()
