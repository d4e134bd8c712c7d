"""Desks: what is a command, what commands do, and what is taken back."""

import unittest

from checking import Case, odd_lines, odd_values
from uplines.desk import Desk
from uplines.errors import (
    CommandFailed, InvalidCommand, InvalidLevel, InvalidLine, InvalidSheet, NameTaken, NothingToUndo, TooMany,
    UnknownNode,
)
from uplines.growing import Grower
from uplines.sheets import Sheet


def lower():
    return Sheet([["a", "b"], ["c", "d"]], [("a", "c"), ("a", "d"), ("b", "d")])


def busy():
    """A desk with a command of each kind that changes the sheet."""
    desk = Desk(lower())
    desk.do("level e f"), desk.do("node 1 g"), desk.do("line d e"), desk.do("strike a c")
    return desk


def state(desk):
    return [repr(desk.sheet), desk.log(), len(desk)]


def no_commands():
    return odd_values() + [
        "levels", "Level", "level ", " level", "level  a", "level A", "level a ", "level abcdefg", "level a,b",
        "level a\n", "node", "node 0", "node a b", "node 0 a b", "node 00 a", "node 01 a", "node 100 a", "node -1 a",
        "node +1 a", "node 1.0 a", "node  a", "node 0  a", "node a 0", "node 0 A", "node 1_0 a", "node 9a a",
        "line", "line a", "line a b c", "line a  b", "line A b", "line a b ", "line a,b", "linea b",
        "strike", "strike a", "strike a b c", "strike a B", "undo ", "undo 1", "undone", "clean a", "Clean", "clean\n",
        "far 1", "far ", "many a", "first 0", "orders", "orders a", "orders 00", "orders 100", "orders 1 2",
        "orders -1", "orders 1 ", "sure", "sure a b", "sure a b c", "sure a b c d e", "sure a b c D", "sure a b  c d",
        "fewest 3", "", " ", "\n", "a", "0", "undo\nundo", ["undo"], ("undo",), b"undo", {"undo": 1}, Desk(lower()),
    ]


def commands():
    return [
        "level", "level a", "level a a", "level 0 1 abcdef", "level " + " ".join(f"n{at}" for at in range(19)),
        "node 0 a", "node 9 0", "node 10 a", "node 99 zzzzzz", "line a b", "line a a", "line 0 1", "strike a b",
        "strike level line", "undo", "clean", "far", "many", "first", "orders 0", "orders 12", "orders 99",
        "sure a b c d", "sure a a a a", "fewest", "level level undo", "node 1 node",
    ]


class FormTests(Case):
    def test_commands(self):
        for value in commands():
            self.assert_same([Desk.is_command(value), Desk.is_command(value=value)], [True, True])
            self.assert_same(Desk(Sheet([[]])).is_command(value), True)

    def test_no_commands(self):
        desk = busy()
        for value in no_commands():
            self.assert_same(Desk.is_command(value), False)
            self.assert_error(InvalidCommand, {"value": value}, desk.do, value)
            self.assert_error(InvalidCommand, {"value": value}, desk, value)
            self.assert_error(InvalidCommand, {"value": value}, desk.do, command=value)
            self.assert_error(InvalidCommand, {"value": value}, desk, command=value)
        self.assert_same(state(desk), state(busy()))

    def test_numbers(self):
        for number in range(120):
            self.assert_same(Desk.is_command(f"orders {number}"), number < 100)
            self.assert_same(Desk.is_command(f"node {number} a"), number < 100)
            self.assert_same(Desk.is_command(f"orders 0{number}"), False)

    def test_is_static(self):
        self.assertIsInstance(vars(Desk)["is_command"], staticmethod)


class MadeTests(Case):
    def test_ordinary(self):
        desk = Desk(sheet=lower())
        self.assert_same([desk.sheet, desk.log(), len(desk)], [lower(), [], 0])

    def test_no_sheet(self):
        desk = busy()
        for value in odd_values() + [lower().levels(), Desk(lower()), Grower(["a"]), "level a\n", Sheet]:
            if not isinstance(value, Sheet):
                self.assert_error(InvalidSheet, {"value": value}, Desk, value)
                self.assert_error(InvalidSheet, {"value": value}, Desk, sheet=value)
                self.assert_error(InvalidSheet, {"value": value}, desk.use, value)
                self.assert_error(InvalidSheet, {"value": value}, desk.use, sheet=value)
                self.assert_error(InvalidSheet, {"value": value}, setattr, desk, "sheet", value)
        self.assert_same(state(desk), state(busy()))

    def test_another_sheet(self):
        def set_it(desk):
            desk.sheet = Sheet([["x"]])

        for action in (set_it, lambda desk: desk.use(Sheet([["x"]])), lambda desk: desk.use(sheet=Sheet([["x"]]))):
            desk = busy()
            self.assert_same([action(desk), desk.sheet, desk.log(), len(desk)], [None, Sheet([["x"]]), [], 0])
            self.assert_error(NothingToUndo, {}, desk, "undo")
            self.assert_same([desk("level y"), desk("undo")], ["1", "0"])


class ChangeTests(Case):
    def test_level(self):
        desk = Desk(lower())
        self.assert_same([desk("level f e"), desk.sheet.levels(), desk("level"), desk.sheet.levels()[2:]],
                         ["2", [["a", "b"], ["c", "d"], ["e", "f"]], "3", [["e", "f"], []]])
        self.assert_same(desk.log(), ["level f e", "level"])

    def test_node(self):
        desk = Desk(lower())
        self.assert_same([desk.do("node 0 x"), desk.do(command="node 1 0"), desk.sheet.levels()],
                         ["done", "done", [["a", "b", "x"], ["0", "c", "d"]]])

    def test_line_and_strike(self):
        desk = Desk(lower())
        self.assert_same([desk("line b c"), len(desk.sheet.lines()), desk(command="strike a d"), desk.sheet.lines()],
                         ["done", 4, "done", [("a", "c"), ("b", "c"), ("b", "d")]])
        self.assert_same(desk.log(), ["line b c", "strike a d"])

    def test_a_line_that_is_there(self):
        desk = Desk(lower())
        self.assert_same([desk("line a c"), len(desk), desk.log(), desk.sheet], ["done", 1, ["line a c"], lower()])
        self.assert_same([desk("undo"), desk.sheet], ["0", lower()])

    def test_twelve_levels(self):
        desk = Desk(Sheet([[]]))
        self.assert_same([desk("level") for _ in range(11)], [str(number) for number in range(1, 12)])
        self.assert_error(TooMany, {"what": "levels", "limit": 12}, desk, "level")
        self.assert_same([desk("node 10 a"), desk("node 11 b"), desk("line a b"), len(desk)],
                         ["done", "done", "done", 14])


class UndoTests(Case):
    def test_one_by_one(self):
        desk = busy()
        sheets = [lower()]
        for command in busy().log():
            other = Desk(sheets[-1])
            other(command)
            sheets.append(other.sheet)
        for many in range(3, -1, -1):
            self.assert_same([desk("undo"), desk.sheet, desk.log(), len(desk)],
                             [str(many), sheets[many], busy().log()[:many], many])
        self.assert_error(NothingToUndo, {}, desk, "undo")
        self.assert_same(desk.sheet, lower())

    def test_no_commands_yet(self):
        self.assert_error(NothingToUndo, {}, Desk(lower()).do, "undo")

    def test_asking_changes_nothing(self):
        desk = busy()
        for command in ("clean", "far", "many", "first", "orders 0", "sure a b c d", "fewest"):
            desk(command)
            self.assert_same(state(desk), state(busy()))
        self.assert_same(desk("undo"), "3")

    def test_what_raises_an_error_is_not_done(self):
        desk = busy()
        for command in ("level a", "node 9 z", "node 0 a", "line a z", "line c a", "strike a c", "sure a b a c"):
            with self.assertRaises(Exception):
                desk(command)
            self.assert_same(state(desk), state(busy()))

    def test_done_again(self):
        desk = busy()
        self.assert_same([desk("undo"), desk("undo"), desk("level"), desk.log()],
                         ["3", "2", "3", ["level e f", "node 1 g", "level"]])

    def test_300_calls(self):
        desk = busy()
        for _ in range(140):
            desk("strike b d"), desk("undo")
        self.assert_same(state(desk), state(busy()))

    def test_told_lists_are_new(self):
        desk = busy()
        desk.log().clear()
        self.assert_same(desk.log(), busy().log())


class AllTests(Case):
    def test_ordinary(self):
        desk = Desk(Sheet([["a", "b"]]))
        self.assert_same(desk.do_all("level c d", "line a c", "many", "undo"), ["1", "done", "4", "1"])
        self.assert_same([desk.do_all(), desk.do_all("clean"), len(desk)], [[], ["yes"], 1])

    def test_none_has_an_effect(self):
        desk = busy()
        for at, told in [(0, ["undoo"]), (1, ["undo", "line a z"]), (2, ["level x", "undo", "node 0 a", "level y"]),
                         (3, ["undo", "undo", "undo", None]), (1, ["strike b d", "strike b d"]), (0, [[]]),
                         (5, ["undo", "undo", "undo", "undo", "clean", "undo"])]:
            self.assert_error(CommandFailed, {"position": at}, desk.do_all, *told)
            self.assert_same(state(desk), state(busy()))

    def test_raised_from_the_error(self):
        for command, kind, held in [("line a z", UnknownNode, {"value": "z"}), ("level a", NameTaken, {"value": "a"}),
                                    (7, InvalidCommand, {"value": 7}), ("orders 7", InvalidLevel, {"value": 7}),
                                    ("line c a", InvalidLine, {"value": ("c", "a")})]:
            with self.assertRaises(CommandFailed) as caught:
                busy().do_all("clean", command)
            cause = caught.exception.__cause__
            self.assertEqual([type(cause), vars(cause)], [kind, held])

    def test_limits_fail_too(self):
        desk = Desk(Sheet([[]] * 12))
        with self.assertRaises(CommandFailed) as caught:
            desk.do_all("node 0 a", "level")
        self.assertIs(type(caught.exception.__cause__), TooMany)
        self.assert_same(state(desk), state(Desk(Sheet([[]] * 12))))


class LineTests(Case):
    def test_a_line_more(self):
        desk = Desk(lower())
        same = desk
        desk += ("b", "c")
        self.assertIs(desk, same)
        self.assert_same([desk.sheet, desk.log(), desk("undo")], [lower() + ("b", "c"), ["line b c"], "0"])
        desk += ("a", "c")
        self.assert_same([desk.sheet, desk.log()], [lower(), ["line a c"]])

    def test_no_line(self):
        desk = Desk(lower())
        values = [value for value in odd_lines() if value not in (("a", "c"), ("a", "d"))]
        for value in values + [("c", "a"), ("a", "b"), "line a c", ["a", "c"], ("a", "z"), ("z", "c")]:
            self.assert_error(InvalidLine, {"value": value}, desk.__iadd__, value)
        self.assert_same(state(desk), state(Desk(lower())))


class BlockTests(Case):
    def test_without_an_error(self):
        desk = busy()
        with desk as one:
            self.assertIs(one, desk)
            one("undo"), one("undo")
        self.assert_same(desk.log(), busy().log()[:2])

    def test_with_an_error(self):
        for doing in (lambda one: one("undo"), lambda one: one("level"), lambda one: one.use(Sheet([[]])),
                      lambda one: one.do_all("undo", "undo", "undo", "undo"), lambda one: None):
            desk = busy()
            error = KeyError("x")
            with self.assertRaises(KeyError) as caught:
                with desk as one:
                    doing(one)
                    raise error
            self.assertIs(caught.exception, error)
            self.assert_same(state(desk), state(busy()))
            self.assert_same([desk("undo"), desk.log()], ["3", busy().log()[:3]])

    def test_blocks_in_blocks(self):
        desk = busy()
        with desk:
            desk("level x")
            with self.assertRaises(UnknownNode):
                with desk:
                    desk("level y"), desk("line x y"), desk("line x q")
            self.assert_same(desk.sheet.levels()[3:], [["x"]])
            with desk:
                desk("node 3 y")
        self.assert_same(desk.log()[4:], ["level x", "node 3 y"])


class ValueTests(Case):
    def test_copy(self):
        desk = busy()
        other = desk.copy()
        self.assertIsNot(other, desk)
        self.assertTrue(other == desk)
        self.assert_same([desk("undo"), other("level z"), len(desk), len(other)], ["3", "3", 3, 5])
        self.assert_same([other("undo") for _ in range(5)], ["4", "3", "2", "1", "0"])
        self.assert_same([other.sheet, desk.log()], [lower(), busy().log()[:3]])

    def test_equal(self):
        self.assertTrue(busy() == busy())
        self.assertFalse(busy() != busy())
        self.assertFalse(busy() == Desk(busy().sheet))
        one, other = Desk(lower()), Desk(lower())
        one("line a c")
        self.assertFalse(one == other)
        one("undo")
        self.assertTrue(one == other)
        self.assertFalse(Desk(lower()) == Desk(lower() - ("a", "c")))
        for value in odd_values() + [lower(), busy().log()]:
            self.assertFalse(busy() == value)
            self.assertTrue(busy() != value)

    def test_a_line_told_either_way_is_the_same_command(self):
        one, other = Desk(lower()), Desk(lower())
        one += ("b", "c")
        other("line b c")
        self.assertTrue(one == other)


if __name__ == "__main__":
    unittest.main()
