"""How sheets are made: the class, chain, wrong levels and lines, the limits."""

import unittest

from checking import Case, all_lines, full_sheet, grid, odd_lines, odd_values
from uplines.errors import InvalidLevels, InvalidLines, InvalidName, NameTaken, TooMany
from uplines.sheets import Sheet

LISTED = [
    "levels", "level", "lines", "gap", "level_of", "above", "below", "pairs", "parts", "is_small", "chain",
    "with_node", "without_node", "with_level", "cut", "joined", "__init__", "__len__", "__contains__",
    "__iter__", "__eq__", "__repr__", "__add__", "__radd__", "__sub__", "__invert__", "__or__", "__rshift__",
]


class MadeTests(Case):
    def test_ordinary(self):
        sheet = Sheet([["b", "a"], ["c", "d"], []], [("b", "c"), ("a", "d"), ("a", "c")])
        self.assert_same(sheet.levels(), [["a", "b"], ["c", "d"], []])
        self.assert_same(sheet.lines(), [("a", "c"), ("a", "d"), ("b", "c")])

    def test_without_lines(self):
        self.assert_same(Sheet([["a"], ["b"]]).lines(), [])
        self.assert_same(Sheet([["a"], ["b"]], []).lines(), [])
        self.assert_same(Sheet([[]]).levels(), [[]])

    def test_tuples_for_lists(self):
        sheet = Sheet((("b", "a"), ["c"]), (("b", "c"),))
        self.assert_same(sheet.levels(), [["a", "b"], ["c"]])
        self.assert_same(sheet.lines(), [("b", "c")])

    def test_by_name(self):
        sheet = Sheet(lines=[("a", "c")], levels=[["a"], ["c"]])
        self.assert_same(sheet.lines(), [("a", "c")])

    def test_class_values(self):
        self.assert_same([Sheet.MOST_LEVELS, Sheet.MOST_NODES, Sheet.MOST_LINES], [12, 18, 200])
        sheet = Sheet([[]])
        self.assert_same([sheet.MOST_LEVELS, sheet.MOST_NODES, sheet.MOST_LINES], [12, 18, 200])

    def test_methods_stand_in_the_class(self):
        self.assertEqual(Sheet.__module__, "uplines.sheets")
        for name in LISTED:
            self.assertIn(name, vars(Sheet))

    def test_copies_what_it_is_given(self):
        levels, lines = [["b", "a"], ["c"]], [("b", "c")]
        sheet = Sheet(levels, lines)
        self.assertEqual((levels, lines), ([["b", "a"], ["c"]], [("b", "c")]))
        levels[0].append("z")
        levels.append(["y"])
        lines.append(("a", "c"))
        self.assert_same(sheet.levels(), [["a", "b"], ["c"]])
        self.assert_same(sheet.lines(), [("b", "c")])
        self.assertNotIn("z", sheet)


class WrongLevelsTests(Case):
    def test_no_list(self):
        for value in [None, True, 0, 3, 10 ** 29, "", "a", {}, {"a": 1}, {0: ["a"]}, Sheet([["a"]]), b"a"]:
            self.assert_error(InvalidLevels, {"position": None}, Sheet, value)

    def test_empty_list(self):
        self.assert_error(InvalidLevels, {"position": None}, Sheet, [])
        self.assert_error(InvalidLevels, {"position": None}, Sheet, ())

    def test_element_that_is_no_list_of_names(self):
        wrong = [None, True, 0, "a", "ab", {}, {"a": 1}, Sheet([["a"]]), b"a"]
        for value in wrong + [[odd] for odd in odd_values()] + [("a", odd) for odd in odd_values()]:
            self.assert_error(InvalidLevels, {"position": 0}, Sheet, [value])
            self.assert_error(InvalidLevels, {"position": 2}, Sheet, (["x"], [], value, ["y"]))

    def test_name_that_stands_ahead(self):
        self.assert_error(InvalidLevels, {"position": 1}, Sheet, [["a"], ["b", "c", "b"], ["a"]])
        self.assert_error(InvalidLevels, {"position": 2}, Sheet, [["a"], ["b"], ["c", "a"]])
        self.assert_error(InvalidLevels, {"position": 0}, Sheet, [("a", "a")])

    def test_first_invalid_element_decides(self):
        self.assert_error(InvalidLevels, {"position": 1}, Sheet, [["a"], ["a"], None, "x"])
        self.assert_error(InvalidLevels, {"position": 1}, Sheet, [["a"], None, ["a"]])

    def test_levels_ahead_of_lines(self):
        for lines in [None, "", [("a", "b")], [None]]:
            self.assert_error(InvalidLevels, {"position": 1}, Sheet, [["a"], ["a"]], lines)
            self.assert_error(InvalidLevels, {"position": None}, Sheet, [], lines)


class WrongLinesTests(Case):
    def setUp(self):
        self.levels = [["a", "b"], ["d", "e"], ["c"]]

    def test_no_list(self):
        for value in [None, True, False, 0, -3, 10 ** 29, "", "ad", {}, {("a", "d"): 1}, Sheet([["a"]]), b""]:
            self.assert_error(InvalidLines, {"position": None}, Sheet, self.levels, value)

    def test_element_that_is_no_line(self):
        for value in odd_lines() + [("d", "a"), ("a", "b"), ("a", "c"), ("c", "d"), ("d", "d")]:
            self.assert_error(InvalidLines, {"position": 0}, Sheet, self.levels, [value])
            self.assert_error(
                InvalidLines, {"position": 2}, Sheet, self.levels, (("a", "d"), ("d", "c"), value, ("b", "d"))
            )

    def test_line_that_stands_ahead(self):
        lines = [("a", "d"), ("d", "c"), ("a", "d"), ("d", "c"), None]
        self.assert_error(InvalidLines, {"position": 2}, Sheet, self.levels, lines)

    def test_first_invalid_element_decides(self):
        self.assert_error(InvalidLines, {"position": 1}, Sheet, self.levels, [("a", "d"), None, ("a", "d")])


class LimitTests(Case):
    def test_just_within(self):
        sheet = full_sheet()
        self.assertEqual([len(sheet), len(sheet.lines())], [12, 200])
        self.assertEqual([len(names) for names in sheet.levels()], [18] * 12)

    def test_levels(self):
        for many in (13, 14, 100):
            self.assert_error(TooMany, {"what": "levels", "limit": 12}, Sheet, [[]] * many)

    def test_nodes(self):
        for many in (19, 20, 60):
            names = [f"n{number}" for number in range(many)]
            self.assert_error(TooMany, {"what": "nodes", "limit": 18}, Sheet, [[], names])

    def test_lines(self):
        levels = grid(2, 18)
        for many in (201, 202, 324):
            lines = all_lines(levels)[:many]
            self.assert_error(TooMany, {"what": "lines", "limit": 200}, Sheet, levels, lines)

    def test_sequence_of_limits(self):
        lines = all_lines(grid(2, 18))
        self.assert_error(
            TooMany, {"what": "levels", "limit": 12}, Sheet,
            grid(2, 18) + [[f"z{number}" for number in range(19)]] + [[]] * 11, lines,
        )
        self.assert_error(
            TooMany, {"what": "nodes", "limit": 18}, Sheet,
            grid(2, 18) + [[f"z{number}" for number in range(19)]], lines,
        )

    def test_limits_behind_all_other_errors(self):
        self.assert_error(InvalidLevels, {"position": 19}, Sheet, [[]] * 19 + ["a"])
        names = [f"n{number}" for number in range(19)]
        self.assert_error(InvalidLevels, {"position": 1}, Sheet, [names, ["n3"]])
        self.assert_error(InvalidLines, {"position": None}, Sheet, [names], None)
        self.assert_error(InvalidLines, {"position": 0}, Sheet, [[]] * 13, ["ab"])
        levels = grid(2, 18)
        lines = all_lines(levels)[:201]
        self.assert_error(InvalidLines, {"position": 201}, Sheet, levels, lines + [lines[0]])


class ChainTests(Case):
    def test_ordinary(self):
        sheet = Sheet.chain("b", "a", "c")
        self.assert_same(sheet.levels(), [["b"], ["a"], ["c"]])
        self.assert_same(sheet.lines(), [("a", "c"), ("b", "a")])
        self.assertIs(type(sheet), Sheet)

    def test_one_name(self):
        self.assert_same(Sheet.chain("x").levels(), [["x"]])
        self.assert_same(Sheet.chain("x").lines(), [])

    def test_from_an_object(self):
        self.assertEqual(Sheet([["q"]]).chain("a", "b"), Sheet.chain("a", "b"))

    def test_without_names(self):
        self.assert_error(InvalidLevels, {"position": None}, Sheet.chain)

    def test_no_name(self):
        for value in odd_values() + [["a"], ("a",), 0, 1]:
            self.assert_error(InvalidName, {"value": value}, Sheet.chain, value)
            self.assert_error(InvalidName, {"value": value}, Sheet.chain, "a", "b", value, None)

    def test_name_that_stands_ahead(self):
        self.assert_error(NameTaken, {"value": "b"}, Sheet.chain, "a", "b", "b", "a")
        self.assert_error(NameTaken, {"value": "a"}, Sheet.chain, "a", "b", "a", "b")

    def test_sequence(self):
        self.assert_error(InvalidName, {"value": "A"}, Sheet.chain, "a", "a", "A")
        names = [f"n{number}" for number in range(13)]
        self.assert_error(InvalidName, {"value": None}, Sheet.chain, *names, None)
        self.assert_error(NameTaken, {"value": "n4"}, Sheet.chain, *names, "n4")

    def test_limit(self):
        names = [f"n{number}" for number in range(13)]
        self.assertEqual(len(Sheet.chain(*names[:12])), 12)
        self.assert_error(TooMany, {"what": "levels", "limit": 12}, Sheet.chain, *names)


if __name__ == "__main__":
    unittest.main()
