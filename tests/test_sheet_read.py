"""What can be read off a sheet."""

import random
import unittest

from checking import Case, all_lines, full_sheet, odd_lines, odd_values
from uplines.errors import InvalidLevel, UnknownNode
from uplines.sheets import Sheet


def sample():
    """Levels of unlike sizes, one of them empty, and several parts."""
    return Sheet(
        [["b", "a", "f"], ["d", "c", "e"], [], ["g"]],
        [("f", "e"), ("b", "c"), ("a", "d"), ("b", "d")],
    )


class PartsOfASheetTests(Case):
    def test_levels(self):
        sheet = sample()
        self.assert_same(sheet.levels(), [["a", "b", "f"], ["c", "d", "e"], [], ["g"]])
        for number, names in enumerate(sheet.levels()):
            self.assert_same(sheet.level(number), names)
        self.assert_same(sheet.level(number=0), ["a", "b", "f"])

    def test_lines_and_gaps(self):
        sheet = sample()
        self.assert_same(sheet.lines(), [("a", "d"), ("b", "c"), ("b", "d"), ("f", "e")])
        self.assert_same(sheet.gap(0), sheet.lines())
        self.assert_same([sheet.gap(1), sheet.gap(number=2)], [[], []])
        chain = Sheet.chain("c", "b", "a")
        self.assert_same([chain.gap(0), chain.gap(1)], [[("c", "b")], [("b", "a")]])

    def test_node(self):
        sheet = sample()
        self.assert_same([sheet.level_of(node) for node in "afceg"], [0, 0, 1, 1, 3])
        self.assert_same([sheet.above("a"), sheet.above("b"), sheet.above("c"), sheet.above("g")],
                         [["d"], ["c", "d"], [], []])
        self.assert_same([sheet.below("d"), sheet.below("e"), sheet.below("a"), sheet.below("g")],
                         [["a", "b"], ["f"], [], []])
        self.assert_same([sheet.level_of(node="g"), sheet.above(node="f"), sheet.below(node="c")],
                         [3, ["e"], ["b"]])

    def test_ends_are_sorted(self):
        sheet = Sheet([["z", "y", "1"], ["x", "2", "w"]],
                      [("z", "x"), ("z", "2"), ("z", "w"), ("y", "2"), ("1", "2")])
        self.assert_same(sheet.above("z"), ["2", "w", "x"])
        self.assert_same(sheet.below("2"), ["1", "y", "z"])

    def test_pairs(self):
        self.assert_same(Sheet([["b"], ["a"], []]).pairs(), [])
        self.assert_same(Sheet([["d", "c"], ["b", "a"]]).pairs(),
                         [("a", "b"), ("b", "a"), ("c", "d"), ("d", "c")])
        self.assert_same(Sheet([["b", "c", "a"]]).pairs(),
                         [("a", "b"), ("a", "c"), ("b", "a"), ("b", "c"), ("c", "a"), ("c", "b")])
        self.assertEqual(len(full_sheet().pairs()), 12 * 18 * 17)

    def test_no_level(self):
        sheet = sample()
        for value in odd_values() + ["a", ("a",), ["a"], 4, 5, -4]:
            self.assert_error(InvalidLevel, {"value": value}, sheet.level, value)
            self.assert_error(InvalidLevel, {"value": value}, sheet.gap, value)
        self.assert_error(InvalidLevel, {"value": 3}, sheet.gap, 3)
        self.assert_error(InvalidLevel, {"value": 0}, Sheet([["a"]]).gap, 0)

    def test_no_node(self):
        sheet = sample()
        for value in odd_values() + ["q", "A", ("a",), ["a"], ("a", "d"), 0, 1]:
            for read in (sheet.level_of, sheet.above, sheet.below):
                self.assert_error(UnknownNode, {"value": value}, read, value)

    def test_what_is_returned_is_new(self):
        sheet = sample()
        wanted = repr(sheet)
        for read in (sheet.levels, sheet.lines, sheet.pairs, sheet.parts):
            read().clear()
            self.assertNotEqual(read(), [])
        for read, passed in [(sheet.level, 0), (sheet.gap, 0), (sheet.above, "b"), (sheet.below, "d")]:
            read(passed).clear()
            self.assertNotEqual(read(passed), [])
        for names in sheet.levels():
            names.append("z")
        self.assertEqual(repr(sheet), wanted)


class WholeSheetTests(Case):
    def test_len(self):
        self.assert_same([len(Sheet([[]])), len(sample()), len(full_sheet())], [1, 4, 12])

    def test_iteration(self):
        self.assert_same(list(sample()), ["a", "b", "f", "c", "d", "e", "g"])
        self.assert_same(list(Sheet([[], []])), [])
        self.assert_same([node for node in Sheet([["z"], ["a"]])], ["z", "a"])

    def test_in(self):
        sheet = sample()
        for value in list(sheet) + sheet.lines():
            self.assertIs(value in sheet, True)
        for value in odd_lines() + ["q", ("a", "c"), ("d", "a"), ["a", "d"], ("f", "d"), sheet]:
            if value != ("a", "d"):
                self.assertIs(value in sheet, False)

    def test_equal(self):
        sheet = sample()
        same = Sheet((("f", "a", "b"), ("e", "d", "c"), (), ("g",)), sheet.lines()[::-1])
        self.assertIs(sheet == same, True)
        self.assertIs(sheet != same, False)
        for other in [sheet - ("a", "d"), sheet + ("a", "c"), ~sheet, sheet.with_level(),
                      sheet.without_node("g"), sheet.with_node(2, "h"), sheet.cut(0, 2)]:
            self.assertIs(sheet == other, False)
            self.assertIs(other == sheet, False)
            self.assertIs(sheet != other, True)
        self.assertNotEqual(Sheet([["a"], []]), Sheet([[], ["a"]]))
        self.assertNotEqual(Sheet([["a"], ["b"]]), Sheet([["a", "b"], []]))

    def test_not_equal_to_other_kinds(self):
        sheet = sample()
        for value in [None, 0, "a", [], sheet.levels(), (sheet.levels(), sheet.lines()), repr(sheet), {}, list(sheet)]:
            self.assertIs(sheet == value, False)
            self.assertIs(value == sheet, False)
            self.assertIs(sheet != value, True)

    def test_repr(self):
        self.assertEqual(repr(Sheet([["b", "a"], ["c"]], [("a", "c")])), "Sheet([['a', 'b'], ['c']], [('a', 'c')])")
        self.assertEqual(repr(Sheet([[]])), "Sheet([[]], [])")
        self.assertEqual(str(Sheet(([], ("x",)))), "Sheet([[], ['x']], [])")
        self.assertEqual(eval(repr(sample()), {"Sheet": Sheet}), sample())


class HangingTogetherTests(Case):
    def test_ordinary(self):
        self.assert_same(sample().parts(), [
            Sheet([["a", "b"], ["c", "d"], [], []], [("a", "d"), ("b", "c"), ("b", "d")]),
            Sheet([["f"], ["e"], [], []], [("f", "e")]),
            Sheet([[], [], [], ["g"]]),
        ])

    def test_without_nodes(self):
        self.assert_same(Sheet([[]]).parts(), [])
        self.assert_same(Sheet([[], []]).parts(), [])

    def test_one_part(self):
        self.assert_same(Sheet.chain("c", "b", "a").parts(), [Sheet.chain("c", "b", "a")])

    def test_up_and_down_along_many_lines(self):
        rows = [[f"u{number}" for number in range(18)], [f"v{number}" for number in range(18)]]
        lines = list(zip(rows[0], rows[1])) + list(zip(rows[0][1:], rows[1]))
        sheet = Sheet(rows, lines)
        self.assert_same(sheet.parts(), [sheet])

    def test_sequence_of_first_nodes(self):
        sheet = Sheet([["z", "y"], ["a", "b", "c"]], [("z", "a"), ("y", "c")])
        self.assert_same([list(part) for part in sheet.parts()], [["y", "c"], ["z", "a"], ["b"]])

    def test_against_the_plain_meaning(self):
        chance = random.Random(5)
        for _ in range(60):
            levels, sheet = random_sheet(chance)
            groups = plain_groups(sheet)
            self.assert_same([list(part) for part in sheet.parts()], groups)
            for part, group in zip(sheet.parts(), groups):
                self.assertEqual(len(part), len(levels))
                self.assertEqual(part.lines(), [line for line in sheet.lines() if line[0] in group])
                self.assertEqual([part.level_of(node) for node in group], [sheet.level_of(node) for node in group])


class SmallTests(Case):
    def test_levels(self):
        self.assertIs(Sheet([[]] * 6).is_small(), True)
        self.assertIs(Sheet([[]] * 7).is_small(), False)
        self.assertIs(full_sheet().is_small(), False)

    def test_nodes(self):
        names = [f"n{number}" for number in range(6)]
        for number in range(3):
            for many, wanted in [(5, True), (6, False)]:
                levels = [[], [], []]
                levels[number] = names[:many]
                self.assertIs(Sheet(levels).is_small(), wanted)

    def test_lines_of_each_gap(self):
        levels = [[f"{sign}{number}" for number in range(5)] for sign in "abcdef"]
        lines = [all_lines(levels[number:number + 2]) for number in range(5)]
        just = [line for gap in lines for line in gap[:12]]
        self.assertEqual(len(just), 60)
        self.assertIs(Sheet(levels, just).is_small(), True)
        for gap in lines:
            self.assertIs(Sheet(levels, just + [gap[12]]).is_small(), False)
            self.assertIs(Sheet(levels, gap[:12]).is_small(), True)
            self.assertIs(Sheet(levels, gap[:13]).is_small(), False)


def random_sheet(chance):
    """A sheet of unlike levels and lines, and the levels as they were passed."""
    names = [f"n{number}" for number in range(30)]
    chance.shuffle(names)
    levels = [[names.pop() for _ in range(chance.randrange(5))] for _ in range(chance.randrange(1, 6))]
    lines = [line for line in all_lines(levels) if chance.random() < 0.2]
    chance.shuffle(lines)
    return levels, Sheet(levels, lines)


def plain_groups(sheet):
    """The lists of nodes that hang together: groups are put into one until no line leads out."""
    group_of = {node: node for node in sheet}
    for low, high in sheet.lines() * len(group_of):
        group_of[low] = group_of[high] = min(group_of[low], group_of[high])
    groups = {}
    for node in sheet:
        groups.setdefault(group_of[node], []).append(node)
    return list(groups.values())


if __name__ == "__main__":
    unittest.main()
