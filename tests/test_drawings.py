"""The class Drawing: an order for each level of a sheet."""

import copy
import random
import unittest

from checking import Case, full_sheet, odd_lines, odd_orders, odd_values
from plainly import crossing_lines, every_choice, pairs_of, samples
from uplines.drawings import Drawing
from uplines.errors import (
    InvalidDrawing, InvalidLevel, InvalidNumber, InvalidOrder, InvalidPair, InvalidSheet, UnknownLine, UnknownNode,
)
from uplines.sheets import Sheet


def lower():
    return Sheet([["a", "b"], ["c", "d"]], [("a", "c"), ("a", "d"), ("b", "d")])


def wide():
    """Three levels, the middle one of three nodes, and an empty one on top."""
    return Sheet([["a", "b"], ["e", "c", "d"], ["f"], []],
                 [("a", "c"), ("a", "e"), ("b", "c"), ("b", "d"), ("c", "f"), ("e", "f")])


def drawn():
    return Drawing(wide(), [["b", "a"], ["d", "c", "e"], ["f"], []])


class MadeTests(Case):
    def test_ordinary(self):
        made = drawn()
        self.assert_same(made.orders(), [["b", "a"], ["d", "c", "e"], ["f"], []])
        self.assert_same(made.sheet, wide())
        self.assert_same(Drawing(wide(), (("b", "a"), ["d", "c", "e"], ("f",), ())), made)
        self.assert_same(Drawing(orders=made.orders(), sheet=wide()), made)

    def test_plain(self):
        wanted = [["a", "b"], ["c", "d", "e"], ["f"], []]
        self.assert_same(Drawing.plain(wide()).orders(), wanted)
        self.assert_same(Drawing.plain(sheet=wide()), Drawing(wide(), wanted))
        self.assertIs(type(Drawing.plain(wide())), Drawing)

    def test_edges(self):
        self.assert_same(Drawing(Sheet([[]]), [[]]).orders(), [[]])
        self.assert_same(Drawing(Sheet([[], []]), ((), [])).orders(), [[], []])
        full = full_sheet()
        self.assert_same(Drawing(full, [names[::-1] for names in full.levels()])[7], full.level(7)[::-1])

    def test_what_is_passed_is_copied(self):
        orders = [["b", "a"], ["d", "c", "e"], ["f"], []]
        held = copy.deepcopy(orders)
        made = Drawing(wide(), orders)
        self.assert_same(orders, held)
        orders[0].reverse()
        orders.pop()
        self.assert_same(made.orders(), held)

    def test_told_lists_are_new(self):
        made = drawn()
        made.orders()[0].reverse()
        made.orders().clear()
        made[1].clear()
        made.crossings().append(None)
        self.assert_same([made.orders(), made[1], made.is_clean], [drawn().orders(), ["d", "c", "e"], True])

    def test_no_sheet(self):
        for value in odd_values() + ["a", Sheet, drawn()]:
            if not isinstance(value, Sheet):
                self.assert_error(InvalidSheet, {"value": value}, Drawing, value, [["a"]])
                self.assert_error(InvalidSheet, {"value": value}, Drawing, value, None)
                self.assert_error(InvalidSheet, {"value": value}, Drawing.plain, value)

    def test_no_orders(self):
        good = drawn().orders()
        wrong = odd_values() + [[], (), {}, "ab", good[:3], good + [[]], good[::-1], {0: good[0]}, drawn(), wide(),
                                {number: order for number, order in enumerate(good)}, drawn, [good], good[0]]
        for value in wrong:
            self.assert_error(InvalidDrawing, {"value": value}, Drawing, wide(), value)
        for value in odd_orders():
            if value not in ([], ()):
                spoilt = [good[0], good[1], good[2], value]
                self.assert_error(InvalidDrawing, {"value": spoilt}, Drawing, wide(), spoilt)
        for value in odd_values() + [["c", "d"], ["c", "d", "d"], "cde", ["c", "d", "e", "f"], ["c", "d", None],
                                     [["c"], "d", "e"], {"c": 1, "d": 2, "e": 3}, ["a", "b", "c"]]:
            spoilt = (good[0], value, good[2], good[3])
            self.assert_error(InvalidDrawing, {"value": spoilt}, Drawing, wide(), spoilt)


class ReadTests(Case):
    def test_level(self):
        made = drawn()
        self.assert_same([made[0], made[1], made[2], made[3]], drawn().orders())
        for value in odd_values() + [4, "0", [0], (0,), slice(0, 1)]:
            self.assert_error(InvalidLevel, {"value": value}, lambda: made[value])

    def test_iteration(self):
        self.assert_same(list(drawn()), [("b", "a"), ("d", "c", "e"), ("f",), ()])
        self.assert_same(list(Drawing.plain(Sheet([[]]))), [()])

    def test_is_left(self):
        self.assert_same(drawn().is_left("b", "a"), True)
        self.assert_same(drawn().is_left("a", "b"), False)
        self.assert_same(drawn().is_left(other="e", one="d"), True)
        for choice in every_choice(wide()):
            for one, other in pairs_of(wide()):
                level = wide().level_of(one)
                left = choice[level].index(one) < choice[level].index(other)
                self.assert_same(Drawing(wide(), choice).is_left(one, other), left)

    def test_no_pair(self):
        for value in odd_values() + ["a", "c", "nope", ("a", "c")]:
            self.assert_error(InvalidPair, {"value": ("a", value)}, drawn().is_left, "a", value)
            self.assert_error(InvalidPair, {"value": (value, "a")}, drawn().is_left, value, "a")
        self.assert_error(InvalidPair, {"value": ("b", ["a"])}, drawn().is_left, other=["a"], one="b")

    def test_equal(self):
        self.assertTrue(drawn() == drawn())
        self.assertFalse(drawn() != drawn())
        self.assertFalse(drawn() == drawn().turned())
        self.assertTrue(drawn() != drawn().turned())
        self.assertFalse(drawn() == Drawing(wide() - ("a", "c"), drawn().orders()))
        for value in odd_values() + [drawn().orders(), wide(), list(drawn())]:
            self.assertFalse(drawn() == value)
            self.assertTrue(drawn() != value)

    def test_repr(self):
        sheet = Sheet([["b", "a"], ["c"]], [("b", "c")])
        self.assertEqual(repr(Drawing(sheet, (("b", "a"), ("c",)))),
                         "Drawing(Sheet([['a', 'b'], ['c']], [('b', 'c')]), [['b', 'a'], ['c']])")
        self.assertEqual(repr(Drawing.plain(Sheet([[]]))), "Drawing(Sheet([[]], []), [[]])")

    def test_properties_are_not_set(self):
        for name in ("sheet", "is_clean"):
            with self.assertRaises(AttributeError):
                setattr(drawn(), name, True)


class CrossingTests(Case):
    def test_ordinary(self):
        other = Drawing(lower(), [["b", "a"], ["c", "d"]])
        self.assert_same(other.crossings(), [(("a", "c"), ("b", "d"))])
        self.assert_same([other.is_clean, other.crossings_at("d"), other.crossings_at(node="c")], [False, 1, 1])
        self.assert_same([Drawing.plain(lower()).crossings(), Drawing.plain(lower()).is_clean], [[], True])

    def test_with_a_common_end_they_never_cross(self):
        sheet = Sheet([["a", "b"], ["c", "d"], ["e"]], [("a", "c"), ("a", "d"), ("c", "e"), ("d", "e"), ("b", "d")])
        crossed = Drawing(sheet, [["b", "a"], ["c", "d"], ["e"]]).crossings()
        self.assert_same(crossed, [(("a", "c"), ("b", "d"))])

    def test_lines_of_other_gaps_never_cross(self):
        sheet = Sheet([["a", "b"], ["c", "d"], ["e", "f"]], [("a", "c"), ("d", "e"), ("b", "d"), ("c", "f")])
        self.assert_same(Drawing.plain(sheet).crossings(), [(("c", "f"), ("d", "e"))])

    def test_sorted_whatever_the_gap(self):
        sheet = Sheet([["y", "z"], ["a", "b"], ["p", "q"]], [("y", "b"), ("z", "a"), ("a", "q"), ("b", "p")])
        self.assert_same(Drawing.plain(sheet).crossings(), [(("a", "q"), ("b", "p")), (("y", "b"), ("z", "a"))])

    def test_against_all_lines(self):
        for sheet in samples(20):
            for choice in every_choice(sheet)[::3]:
                drawing = Drawing(sheet, choice)
                found = crossing_lines(sheet, choice)
                self.assert_same(drawing.crossings(), found)
                self.assert_same(drawing.is_clean, not found)
                for node in sheet:
                    many = len([lines for lines in found if node in lines[0] + lines[1]])
                    self.assert_same(drawing.crossings_at(node), many)

    def test_of_a_great_sheet(self):
        sheet = full_sheet()
        chance = random.Random(3)
        choice = [chance.sample(names, len(names)) for names in sheet.levels()]
        drawing = Drawing(sheet, choice)
        self.assertEqual(drawing.crossings(), crossing_lines(sheet, choice))
        self.assertGreater(len(drawing.crossings()), 2000)
        self.assertFalse(drawing.is_clean)

    def test_no_node(self):
        for value in odd_values() + ["nope", ("a", "c"), ["a"], "ab"]:
            self.assert_error(UnknownNode, {"value": value}, drawn().crossings_at, value)


class OtherDrawingsTests(Case):
    def test_turned(self):
        wanted = Drawing(wide(), [["a", "b"], ["e", "c", "d"], ["f"], []])
        self.assert_same([drawn().turned(), -drawn(), -wanted], [wanted, wanted, drawn()])
        for sheet in samples(10):
            for choice in every_choice(sheet)[::7]:
                drawing = Drawing(sheet, choice)
                self.assert_same((-drawing).orders(), [order[::-1] for order in choice])
                self.assert_same([drawing.turned(), (-drawing).crossings()], [-drawing, drawing.crossings()])

    def test_upside_down(self):
        wanted = Drawing(~wide(), [[], ["f"], ["d", "c", "e"], ["b", "a"]])
        self.assert_same([~drawn(), ~~drawn()], [wanted, drawn()])
        self.assertEqual(len((~Drawing(lower(), [["b", "a"], ["c", "d"]])).crossings()), 1)

    def test_with_order(self):
        made = drawn()
        self.assert_same(made.with_order(1, ["e", "d", "c"]),
                         Drawing(wide(), [["b", "a"], ["e", "d", "c"], ["f"], []]))
        self.assert_same(made.with_order(order=("a", "b"), level=0),
                         Drawing(wide(), [["a", "b"], ["d", "c", "e"], ["f"], []]))
        self.assert_same([made.with_order(3, ()), made.with_order(2, ["f"]), made], [drawn()] * 3)
        order = ["e", "d", "c"]
        other = made.with_order(1, order)
        order.clear()
        self.assert_same(other[1], ["e", "d", "c"])

    def test_with_no_order(self):
        for value in odd_values() + [4, "0"]:
            self.assert_error(InvalidLevel, {"value": value}, drawn().with_order, value, None)
        for value in odd_orders() + [["d", "c"], ["a", "b", "c"], ["c", "d", "d"]]:
            self.assert_error(InvalidOrder, {"value": value}, drawn().with_order, 1, value)
        for value in odd_values() + [["a"], ["f"]]:
            self.assert_error(InvalidOrder, {"value": value}, drawn().with_order, 3, value)

    def test_swapped(self):
        made = drawn()
        self.assert_same(made.swapped(1, 0), Drawing(wide(), [["b", "a"], ["c", "d", "e"], ["f"], []]))
        self.assert_same(made.swapped(position=1, level=1), Drawing(wide(), [["b", "a"], ["d", "e", "c"], ["f"], []]))
        self.assert_same(made.swapped(0, 0).swapped(0, 0), made)

    def test_swapped_wrongly(self):
        for value in odd_values() + [4, "0"]:
            self.assert_error(InvalidLevel, {"value": value}, drawn().swapped, value, -1)
        for value in odd_values() + [2, 3, "0", [0]]:
            self.assert_error(InvalidNumber, {"value": value}, drawn().swapped, 1, value)
        for level, position in ((0, 1), (2, 0), (3, 0), (3, -1)):
            self.assert_error(InvalidNumber, {"value": position}, drawn().swapped, level, position)

    def test_a_line_less(self):
        made = Drawing(lower(), [["b", "a"], ["c", "d"]])
        self.assert_same(made - ("a", "c"), Drawing(lower() - ("a", "c"), [["b", "a"], ["c", "d"]]))
        self.assert_same([(made - ("b", "d")).is_clean, made.is_clean], [True, False])
        made -= ("a", "d")
        self.assert_same(made.sheet.lines(), [("a", "c"), ("b", "d")])

    def test_no_line(self):
        for value in odd_lines() + [("b", "c"), ("d", "a"), lower(), ["a", "d"]]:
            self.assert_error(UnknownLine, {"value": value}, lambda: Drawing.plain(lower()) - value)

    def test_it_never_changes(self):
        made = drawn()
        for _ in (made.turned(), -made, ~made, made.swapped(1, 0), made - ("a", "c"), made.with_order(0, ["a", "b"]),
                  made.crossings(), list(made), made[0]):
            self.assert_same(made, drawn())


if __name__ == "__main__":
    unittest.main()
