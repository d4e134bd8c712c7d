"""Growers: what is put on top, what is refused, the top orders, and what is as good."""

import itertools
import unittest

from checking import Case, grid, odd_lines, odd_values
from growers import grown, plenty, square, state
from plainly import clean_choices, crossing_lines, every_choice
import reading
from uplines.basics import is_name
from uplines.errors import InvalidLine, InvalidLines, InvalidName, InvalidNodes, NameTaken, Refused, TooMany
from uplines.growing import Grower
from uplines.sheets import Sheet


class MadeTests(Case):
    def test_ordinary(self):
        grower = Grower(["b", "a"])
        self.assert_same([grower.sheet, grower.top], [Sheet([["a", "b"]]), ["a", "b"]])
        self.assert_same([grower.log(), len(grower)], [[], 0])
        for empty in (Grower(), Grower([]), Grower(()), Grower(names=())):
            self.assert_same([empty.sheet, empty.top, empty.orders()], [Sheet([[]]), [], [[]]])
        self.assert_same(Grower(names=("x",)).sheet, Sheet([["x"]]))

    def test_limit(self):
        five = ["e", "d", "c", "b", "a"]
        self.assert_same([Grower(five).top, len(Grower(five).orders())], [five[::-1], 120])
        self.assert_error(TooMany, {"what": "nodes", "limit": 5}, Grower, [*five, "f"])
        self.assert_error(TooMany, {"what": "nodes", "limit": 5}, Grower, names=tuple(grid(1, 18)[0]))

    def test_no_names(self):
        for value in odd_values() + ["a", "abc", {"a": "b"}, b"ab", Sheet([["a"]])]:
            if not isinstance(value, (list, tuple)):
                self.assert_error(InvalidNodes, {"position": None}, Grower, value)
                self.assert_error(InvalidNodes, {"position": None}, Grower, names=value)
        for value in odd_values() + [["a"], ("a", "b"), 7, "abcdefg"]:
            self.assert_error(InvalidNodes, {"position": 0}, Grower, [value])
            self.assert_error(InvalidNodes, {"position": 2}, Grower, ("a", "b", value, value))
            self.assert_error(InvalidNodes, {"position": 6}, Grower, [*"abcdef", value])
        self.assert_error(InvalidNodes, {"position": 1}, Grower, ["a", "a"])
        self.assert_error(InvalidNodes, {"position": 6}, Grower, [*"abcdef", "b"])

    def test_what_is_passed_is_copied(self):
        names = ["b", "a"]
        grower = Grower(names)
        self.assert_same(names, ["b", "a"])
        names.append("c")
        grower.top.clear()
        self.assert_same(grower.top, ["a", "b"])

    def test_properties_are_not_set(self):
        for name in ("sheet", "top"):
            with self.assertRaises(AttributeError):
                setattr(square(), name, Sheet([[]]))


class LevelTests(Case):
    def test_six_levels(self):
        grower = Grower(["a"])
        self.assert_same([grower.level() for _ in range(5)], [1, 2, 3, 4, 5])
        self.assert_same([len(grower.sheet), grower.top, grower.orders()], [6, [], [[]]])
        held = state(grower)
        self.assert_error(TooMany, {"what": "levels", "limit": 6}, grower.level)
        self.assert_same(state(grower), held)


class NodeTests(Case):
    def test_ordinary(self):
        grower = Grower(["a"])
        self.assert_same([grower.node("c"), grower.node(name="b"), grower.top], [None, None, ["a", "b", "c"]])
        grower.level()
        self.assert_same([grower.node("x"), grower.sheet], [None, Sheet([["a", "b", "c"], ["x"]])])

    def test_five_nodes(self):
        grower = Grower(["a"])
        grower.level()
        for name in ["v", "w", "x", "y", "z"]:
            grower.node(name)
        held = state(grower)
        wrong = {"what": "nodes", "limit": 5}
        self.assert_error(TooMany, wrong, grower.node, "b")
        for name in ("a", "z"):
            self.assert_error(NameTaken, {"value": name}, grower.node, name)
        self.assert_error(InvalidName, {"value": "A"}, grower.node, "A")
        self.assert_same(state(grower), held)

    def test_no_name(self):
        grower = square()
        held = state(grower)
        for value in odd_values() + [("e",), ["e"], 0]:
            if not is_name(value):
                self.assert_error(InvalidName, {"value": value}, grower.node, value)
                self.assert_error(InvalidName, {"value": value}, grower.node, name=value)
        self.assert_same(state(grower), held)

    def test_names_that_are_there(self):
        grower = square()
        for name in "abcd":
            self.assert_error(NameTaken, {"value": name}, grower.node, name)
        grower.level()
        for name in "abcd":
            self.assert_error(NameTaken, {"value": name}, grower.node, name)


class TieTests(Case):
    def test_ordinary(self):
        grower = Grower(["a", "b"])
        grower.level(), grower.node("c"), grower.node("d")
        self.assert_same([grower.tie("a", "d"), grower.tie(high="c", low="b"), grower.sheet.lines()],
                         [None, None, [("a", "d"), ("b", "c")]])
        same = grower
        grower += ("a", "c")
        self.assertIs(grower, same)
        self.assert_same([grower.sheet.lines(), grower.log()[-1]],
                         [[("a", "c"), ("a", "d"), ("b", "c")], ("line", "a", "c")])

    def test_refused(self):
        grower = square()
        held = state(grower)
        self.assert_error(Refused, {"value": ("b", "c")}, grower.tie, "b", "c")
        self.assert_error(Refused, {"value": ("b", "c")}, grower.tie, high="c", low="b")
        self.assert_error(Refused, {"value": ("b", "c")}, grower.__iadd__, ("b", "c"))
        self.assert_error(Refused, {"value": ("b", "c")}, grower, [("b", "c")])
        self.assert_same([grower.may("b", "c"), state(grower)], [False, held])
        self.assertTrue(reading.is_change(grower.sheet + ("b", "c"), grower.why_not("b", "c")))

    def test_no_line(self):
        grower = square()
        grower.level(), grower.node("e"), grower.tie("c", "e")
        held = state(grower)
        for line in [("a", "c"), ("b", "c"), ("a", "e"), ("c", "e"), ("e", "c"), ("c", "d"), ("b", "e"), ("q", "e")]:
            self.assert_error(InvalidLine, {"value": line}, grower.tie, *line)
            self.assert_error(InvalidLine, {"value": line}, grower.__iadd__, line)
            self.assert_error(InvalidLine, {"value": line}, grower.why_not, *line)
            self.assert_error(InvalidLine, {"value": line}, grower, [line])
            self.assert_same(grower.may(*line), False)
        for value in odd_values() + [["d"], ("d", "e"), "D", 0]:
            for line in ((value, "e"), ("d", value), (value, value)):
                self.assert_error(InvalidLine, {"value": line}, grower.tie, *line)
                self.assert_error(InvalidLine, {"value": line}, grower.why_not, high=line[1], low=line[0])
                self.assert_same([grower.may(*line), grower.may(high=line[1], low=line[0])], [False, False])
        for value in odd_lines() + [["d", "e"], "de", ("d", "e", "e"), ("d",)]:
            self.assert_error(InvalidLine, {"value": value}, grower.__iadd__, value)
        self.assert_same(state(grower), held)
        self.assert_same([grower.may("d", "e"), grower.why_not("d", "e"), grower.tie("d", "e")], [True, None, None])

    def test_one_level(self):
        grower = Grower(["a", "b"])
        self.assert_error(InvalidLine, {"value": ("a", "b")}, grower.tie, "a", "b")
        self.assert_same([grower.may("a", "b"), grower([]), grower.log()], [False, 0, [("lines", [])]])

    def test_a_gap_never_has_more_than_nine(self):
        """The nodes of a gap with a clean drawing hang together in no ring, so ten of them have nine lines."""
        grower = Grower(grid(1, 5)[0])
        grower.level()
        for name in "vwxyz":
            grower.node(name)
        for low, high in itertools.product(grower.sheet.level(0), "vwxyz"):
            if grower.may(low, high):
                grower.tie(low, high)
        self.assert_same(len(grower.sheet.lines()), 9)
        for low, high in itertools.product(grower.sheet.level(0), "vwxyz"):
            if (low, high) not in grower:
                self.assert_error(Refused, {"value": (low, high)}, grower.tie, low, high)

    def test_may_against_all_choices(self):
        seen = []
        for sheet in plenty():
            grower = grown(sheet)
            lows = sheet.level(len(sheet) - 2) if len(sheet) > 1 else []
            for line in itertools.product(lows, grower.top):
                if line in sheet:
                    self.assert_same(grower.may(*line), False)
                    self.assert_error(InvalidLine, {"value": line}, grower.tie, *line)
                else:
                    seen.append(bool(clean_choices(sheet + line)))
                    self.assert_same(grower.may(*line), seen[-1])
                    self.assert_same(grower.why_not(*line) is None, seen[-1])
                    if seen[-1]:
                        grower.copy().tie(*line)
                    else:
                        self.assertTrue(reading.is_change(sheet + line, grower.why_not(*line)))
                        self.assert_error(Refused, {"value": line}, grower.tie, *line)
            self.assert_same(grower.sheet, sheet)
        self.assertGreater(min(seen.count(True), seen.count(False)), 20)


class CalledTests(Case):
    def grower(self):
        grower = Grower(["a", "b"])
        grower.level(), grower.node("c"), grower.node("d")
        return grower

    def test_ordinary(self):
        grower = self.grower()
        self.assert_same([grower([("b", "c"), ("a", "d")]), len(grower)], [2, 4])
        self.assert_same([grower(lines=(("a", "c"),)), grower([]), grower(())], [1, 0, 0])
        self.assert_same(grower.log()[3:], [
            ("lines", [("b", "c"), ("a", "d")]), ("lines", [("a", "c")]), ("lines", []), ("lines", [])])
        self.assert_same(grower.sheet.lines(), [("a", "c"), ("a", "d"), ("b", "c")])

    def test_no_list(self):
        grower = self.grower()
        for value in odd_values() + ["ac", {("a", "c"): True}]:
            if not isinstance(value, (list, tuple)):
                self.assert_error(InvalidLines, {"position": None}, grower, value)
                self.assert_error(InvalidLines, {"position": None}, grower, lines=value)

    def test_all_or_none(self):
        grower = self.grower()
        held = state(grower)
        self.assert_error(InvalidLine, {"value": ("a", "c")}, grower, [("a", "c"), ("a", "c")])
        self.assert_error(InvalidLine, {"value": ("c", "a")}, grower, [("a", "c"), ("c", "a"), None])
        lines = [("a", "c"), ("a", "d"), ("b", "c"), ("b", "d"), None]
        self.assert_error(Refused, {"value": ("b", "d")}, grower, lines)
        for value in odd_lines():
            if value not in (("a", "c"), ("a", "d")):
                self.assert_error(InvalidLine, {"value": value}, grower, [("a", "c"), value])
                self.assert_error(InvalidLine, {"value": value}, grower, (value, ("a", "c")))
        self.assert_same(state(grower), held)

    def test_what_is_passed_is_copied(self):
        grower = self.grower()
        lines = [("b", "c"), ("a", "d")]
        grower(lines)
        self.assert_same(lines, [("b", "c"), ("a", "d")])
        lines.clear()
        self.assert_same(grower.log()[-1], ("lines", [("b", "c"), ("a", "d")]))
        grower.log()[-1][1].clear()
        self.assert_same(grower.log()[-1], ("lines", [("b", "c"), ("a", "d")]))


class OrderTests(Case):
    def test_ordinary(self):
        self.assert_same([square().orders(), square().top], [[["c", "d"], ["d", "c"]], ["c", "d"]])
        grower = Grower(["a", "b"])
        grower.level()
        self.assert_same(grower.orders(), [[]])
        for name in "xyz":
            grower.node(name)
        self.assert_same(len(grower.orders()), 6)
        grower([("a", "x"), ("b", "y"), ("b", "z")])
        self.assert_same(grower.orders(), [["x", "y", "z"], ["x", "z", "y"], ["y", "z", "x"], ["z", "y", "x"]])

    def test_against_all_choices(self):
        for sheet in plenty():
            wanted = sorted({tuple(choice[-1]) for choice in clean_choices(sheet)})
            self.assert_same(grown(sheet).orders(), [list(order) for order in wanted])

    def test_told_lists_are_new(self):
        grower = square()
        grower.orders()[0].clear(), grower.orders().clear()
        self.assert_same(grower.orders(), [["c", "d"], ["d", "c"]])


def one_up(names, lines):
    """A grower of a level of p, q and r, and one of these nodes with these lines."""
    grower = Grower(["p", "q", "r"])
    grower.level()
    for name in names:
        grower.node(name)
    grower(lines)
    return grower


class AsGoodTests(Case):
    def test_ordinary(self):
        free = one_up("xyz", [])
        tied = one_up("xyz", [("p", "x"), ("q", "y"), ("q", "z")])
        self.assert_same([free.is_as_good(tied), tied.is_as_good(free), tied.is_as_good(other=tied)],
                         [True, False, True])
        self.assert_same([free.is_as_good(one_up("xy", [])), one_up("xy", []).is_as_good(free)], [False, False])

    def test_nothing_of_the_other_but_its_top(self):
        tied = one_up("xyz", [("p", "x"), ("q", "y"), ("q", "z")])
        other = Grower(["w"])
        other.level(), other.level()
        for name in "xyz":
            other.node(name)
        self.assert_same([other.is_as_good(tied), tied.is_as_good(other)], [True, False])
        self.assert_same(Grower(["x", "y", "z"]).is_as_good(other), True)
        empty = Grower(["a"])
        empty.level()
        self.assert_same([empty.is_as_good(Grower()), Grower().is_as_good(empty)], [True, True])

    def test_against_all_choices(self):
        seen = []
        lines = list(itertools.product("pqr", "xyz"))
        growers = []
        for bits in range(0, 512, 7):
            some = [line for at, line in enumerate(lines) if bits >> at & 1]
            sheet = Sheet([list("pqr"), list("xyz")], some)
            if clean_choices(sheet):
                growers.append((one_up("xyz", some), {tuple(choice[-1]) for choice in clean_choices(sheet)}))
        for (one, tops), (other, others) in itertools.product(growers, repeat=2):
            seen.append(others <= tops)
            self.assert_same(one.is_as_good(other), seen[-1])
        self.assertGreater(min(seen.count(True), seen.count(False)), 100)

    def test_what_can_be_put_on_the_other_can_be_put_on_it(self):
        """Each order of the top level that goes with a sheet above goes with it on both."""
        above = Sheet([list("xyz"), list("uv")], [("x", "u"), ("y", "u"), ("z", "v")])
        lines = list(itertools.product("pqr", "xyz"))
        for one_lines, other_lines in itertools.combinations([lines[at::4] for at in range(4)], 2):
            one, other = one_up("xyz", one_lines), one_up("xyz", other_lines)
            if one.is_as_good(other):
                on_other = Sheet([list("pqr"), list("xyz"), list("uv")], other_lines + above.lines())
                on_one = Sheet([list("pqr"), list("xyz"), list("uv")], one_lines + above.lines())
                self.assertTrue(clean_choices(on_one) or not clean_choices(on_other))

    def test_it_asks_only(self):
        one, other = square(), one_up("xyz", [])
        held = state(one), state(other)
        one.is_as_good(other), one.orders(), one.may("b", "c"), one.why_not("b", "c"), one.log(), len(one)
        self.assert_same((state(one), state(other)), held)


class DrawnTests(Case):
    def test_there_always_is_a_clean_drawing(self):
        for sheet in plenty():
            self.assertTrue(any(not crossing_lines(sheet, choice) for choice in every_choice(grown(sheet).sheet)))


if __name__ == "__main__":
    unittest.main()
