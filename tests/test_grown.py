"""What growers did: the log, what is taken back, copies, blocks and tries."""

import unittest

from checking import Case, odd_values
from growers import grown, plenty, square, state
from uplines.errors import InvalidLine, NameTaken, NothingToUndo, Refused
from uplines.growing import Grower
from uplines.sheets import Sheet


def busy():
    """A grower with a deed of each kind."""
    grower = Grower(["a", "b"])
    grower.level(), grower.node("c"), grower.node("d"), grower.tie("a", "d")
    grower([("b", "c"), ("a", "c")])
    return grower


class LogTests(Case):
    def test_ordinary(self):
        self.assert_same(busy().log(), [("level",), ("node", "c"), ("node", "d"), ("line", "a", "d"),
                                        ("lines", [("b", "c"), ("a", "c")])])
        self.assert_same([len(busy()), Grower(["a"]).log(), len(Grower())], [5, [], 0])

    def test_told_new(self):
        grower = busy()
        grower.log()[-1][1].append(("b", "d"))
        grower.log().clear()
        self.assert_same([grower.log()[-1], len(grower.log())], [("lines", [("b", "c"), ("a", "c")]), 5])
        self.assertIsNot(grower.log()[-1][1], grower.log()[-1][1])

    def test_what_raises_an_error_is_no_deed(self):
        grower = busy()
        for kind, action, passed in [(Refused, grower.tie, ["b", "d"]), (NameTaken, grower.node, ["a"]),
                                     (InvalidLine, grower.tie, ["a", "d"]), (Refused, grower, [[("b", "d")]])]:
            with self.assertRaises(kind):
                action(*passed)
            self.assert_same(state(grower), state(busy()))


class UndoTests(Case):
    def test_one_by_one(self):
        grower = busy()
        sheets = [Sheet([["a", "b"]]), Sheet([["a", "b"], []]), Sheet([["a", "b"], ["c"]]),
                  Sheet([["a", "b"], ["c", "d"]]), Sheet([["a", "b"], ["c", "d"]], [("a", "d")])]
        log = grower.log()
        for many in range(4, -1, -1):
            self.assert_same([grower.undo(), grower.sheet, grower.log(), len(grower)],
                             [None, sheets[many], log[:many], many])
        self.assert_error(NothingToUndo, {}, grower.undo)
        self.assert_same([grower.sheet, grower.log()], [sheets[0], []])

    def test_no_deeds(self):
        for grower in (Grower(), Grower(["a", "b"])):
            self.assert_error(NothingToUndo, {}, grower.undo)

    def test_a_deed_of_no_lines(self):
        grower = Grower(["a"])
        self.assert_same([grower([]), len(grower), grower.undo(), len(grower)], [0, 1, None, 0])

    def test_done_again(self):
        grower = busy()
        grower.undo(), grower.undo()
        grower.tie("b", "d")
        self.assert_same([grower.sheet.lines(), grower.log()[3:]], [[("b", "d")], [("line", "b", "d")]])

    def test_all_the_way_back(self):
        for sheet in plenty():
            grower = grown(sheet)
            while len(grower):
                grower.undo()
            self.assert_same(grower.sheet, Sheet([sheet.level(0)]))

    def test_300_calls(self):
        grower = square()
        for _ in range(140):
            grower.node("x"), grower.undo()
        self.assert_same(state(grower), state(square()))


class CopyTests(Case):
    def test_goes_on_by_itself(self):
        grower = busy()
        other = grower.copy()
        self.assertIsNot(other, grower)
        self.assertTrue(other == grower)
        other.node("e")
        grower.undo()
        self.assert_same([len(other), len(grower), "e" in grower, "e" in other], [6, 4, False, True])
        self.assert_same(other.log()[:5], busy().log())

    def test_with_what_can_be_taken_back(self):
        other = busy().copy()
        for _ in range(5):
            other.undo()
        self.assert_same([other.sheet, other.log()], [Sheet([["a", "b"]]), []])
        self.assert_error(NothingToUndo, {}, other.undo)

    def test_made_within_a_block(self):
        grower = busy()
        with self.assertRaises(ValueError):
            with grower:
                grower.undo()
                other = grower.copy()
                raise ValueError()
        self.assert_same([len(grower), len(other)], [5, 4])


class BlockTests(Case):
    def test_without_an_error(self):
        grower = busy()
        with grower as one:
            self.assertIs(one, grower)
            one.node("e")
            one.undo(), one.undo()
        self.assert_same(grower.log(), busy().log()[:4])

    def test_with_an_error(self):
        for doing in (lambda one: one.node("e"), lambda one: one.undo(), lambda one: one.level(),
                      lambda one: [one.undo() for _ in range(5)], lambda one: one([]), lambda one: None):
            grower = busy()
            error = KeyError("x")
            with self.assertRaises(KeyError) as caught:
                with grower as one:
                    doing(one)
                    raise error
            self.assertIs(caught.exception, error)
            self.assert_same(state(grower), state(busy()))
            grower.undo()
            self.assert_same(grower.log(), busy().log()[:4])

    def test_an_error_of_its_own(self):
        grower = busy()
        with self.assertRaises(Refused):
            with grower:
                grower.node("e")
                grower.tie("b", "e")
                grower.tie("b", "d")
        self.assert_same(state(grower), state(busy()))

    def test_blocks_in_blocks(self):
        grower = busy()
        with grower:
            grower.node("e")
            with self.assertRaises(KeyError):
                with grower:
                    grower.node("f")
                    raise KeyError()
            self.assert_same(grower.top, ["c", "d", "e"])
            with grower:
                grower.level()
        self.assert_same([len(grower), grower.top], [7, []])
        with self.assertRaises(KeyError):
            with grower:
                with grower:
                    grower.undo()
                grower.undo()
                raise KeyError()
        self.assert_same(len(grower), 7)

    def test_one_after_the_other(self):
        grower = busy()
        for name in ("x", "y"):
            with grower:
                grower.node(name)
            with self.assertRaises(KeyError):
                with grower:
                    grower.undo()
                    raise KeyError()
        self.assert_same(grower.top, ["c", "d", "x", "y"])


class TriedTests(Case):
    def test_what_it_returns(self):
        grower = busy()
        self.assert_same([grower.tried(len), grower.tried(action=lambda one: one.level())], [5, 2])
        self.assertIs(grower.tried(lambda one: one), grower)
        self.assert_same(state(grower), state(busy()))

    def test_as_it_was(self):
        grower = busy()
        for action in (lambda one: one.node("e"), lambda one: one.undo(), lambda one: [one.level() for _ in range(3)],
                       lambda one: [one.undo() for _ in range(5)], lambda one: one.tried(lambda it: it.undo())):
            grower.tried(action)
            self.assert_same(state(grower), state(busy()))

    def test_an_error_goes_on(self):
        grower = busy()
        error = KeyError("x")

        def action(one):
            one.undo()
            raise error

        with self.assertRaises(KeyError) as caught:
            grower.tried(action)
        self.assertIs(caught.exception, error)
        self.assert_error(Refused, {"value": ("b", "d")}, grower.tried, lambda one: [one.node("e"), one.tie("b", "d")])
        self.assert_same(state(grower), state(busy()))

    def test_within_a_block(self):
        grower = busy()
        with grower:
            grower.node("e")
            self.assert_same(grower.tried(lambda one: [one.node("f"), one.top][1]), ["c", "d", "e", "f"])
        self.assert_same(grower.top, ["c", "d", "e"])

    def test_a_block_within(self):
        grower = busy()

        def action(one):
            with one:
                one.node("e")
            return one.top

        self.assert_same([grower.tried(action), grower.top], [["c", "d", "e"], ["c", "d"]])


class ValueTests(Case):
    def test_in(self):
        grower = busy()
        for value in ("a", "b", "c", "d", ("a", "d"), ("b", "c")):
            self.assertTrue(value in grower)
        for value in odd_values() + ["e", ("b", "d"), ("d", "a"), ["a", "d"], ["a"], ("a",)]:
            self.assertFalse(value in grower)

    def test_equal(self):
        self.assertTrue(busy() == busy())
        self.assertFalse(busy() != busy())
        self.assertFalse(busy() == grown(busy().sheet))
        self.assertTrue(busy() != square())
        one, other = Grower(["a"]), Grower(["a"])
        one([])
        self.assertFalse(one == other)
        one.undo()
        self.assertTrue(one == other)
        self.assertTrue(Grower(["a", "b"]) == Grower(("b", "a")))
        self.assertFalse(Grower(["a"]) == Grower(["b"]))
        for value in odd_values() + [busy().sheet, busy().log()]:
            self.assertFalse(busy() == value)
            self.assertTrue(busy() != value)

    def test_equal_sheets_are_not_enough(self):
        one, other = square(), square()
        one.undo(), one.tie("a", "c"), one([("a", "d"), ("b", "d")])
        self.assert_same([one.sheet == other.sheet, one == other], [True, False])


if __name__ == "__main__":
    unittest.main()
