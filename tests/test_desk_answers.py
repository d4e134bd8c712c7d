"""What a desk answers, and which errors its commands raise, in which sequence."""

import itertools
import unittest

from checking import Case, all_lines, full_sheet, grid
from plainly import clean_choices, drawn_samples, least_turning, pairs_of, random_sheet, samples, word_plainly
from small_bounds import beyond
from striking import Plainly, apart, few_lines, four, many_clean_lines, many_lines, square, three, wide
from uplines.desk import Desk
from uplines.errors import (
    InvalidCommand, InvalidLevel, InvalidLine, InvalidPair, NameTaken, NothingClean, NothingToUndo, TooMany,
    UnknownLine, UnknownNode,
)
from uplines.sheets import Sheet


def lower():
    return Sheet([["a", "b"], ["c", "d"]], [("a", "c"), ("a", "d"), ("b", "d")])


def crossed():
    return Sheet([["a", "b"], ["c", "d"], ["e", "f"]], square().lines())


def great():
    """Neither small nor clean, with more lines than are searched."""
    levels = grid(12, 18)
    return Sheet(levels, all_lines(levels)[:199])


def written(orders):
    return " ".join(",".join(order) or "-" for order in orders) or "none"


class AnswerTests(Case):
    def test_ordinary(self):
        desk = Desk(lower())
        told = {"clean": "yes", "far": "none", "many": "2", "first": "a,b c,d", "orders 1": "c,d d,c", "fewest": "0",
                "sure a b c d": "alike", "sure a b d c": "turned"}
        self.assert_same({command: desk(command) for command in told}, told)
        told = {"clean": "no", "far": "3", "many": "0", "first": "none", "orders 0": "none", "fewest": "1"}
        self.assert_same({command: Desk(crossed())(command) for command in told}, told)

    def test_empty_orders(self):
        desk = Desk(Sheet([["b", "a"], [], ["c"]]))
        self.assert_same([desk("first"), desk("orders 1"), desk("orders 2"), desk("many")], ["a,b - c", "-", "c", "2"])
        self.assert_same([Desk(Sheet([[]]))("first"), Desk(Sheet([[]]))("orders 0")], ["-", "-"])

    def test_small_sheets(self):
        seen = {"far": set(), "many": set(), "clean": set()}
        for sheet in [*samples(40), *[random_sheet(seed, 4, 3, 4) for seed in range(4)]]:
            desk = Desk(sheet)
            choices = clean_choices(sheet)
            steps = least_turning(sheet)
            told = {"clean": "yes" if choices else "no", "far": "none" if steps is None else str(steps + 1),
                    "many": str(len(choices)), "first": written(choices[0] if choices else [])}
            for level in range(len(sheet)):
                orders = sorted({tuple(choice[level]) for choice in choices})
                told[f"orders {level}"] = " ".join(",".join(order) or "-" for order in orders) if choices else "none"
            self.assert_same({command: desk(command) for command in told}, told)
            for word, answers in seen.items():
                answers.add(told[word])
        self.assertEqual(seen["clean"], {"yes", "no"})
        self.assertLess(3, len(seen["many"]))
        self.assertLessEqual({"none", "3"}, seen["far"])

    def test_far(self):
        self.assert_same([Desk(full_sheet())("far"), Desk(Sheet(grid(12, 18)))("far")], ["3", "none"])
        levels = grid(3, 2)
        told = Sheet(levels, [(levels[0][0], levels[1][0]), (levels[0][1], levels[1][1]), (levels[0][0], levels[1][1])])
        self.assert_same(Desk(told)("far"), "none")

    def test_sure(self):
        seen = set()
        for sheet, choices in drawn_samples(20)[::2]:
            desk = Desk(sheet)
            for pair, other in itertools.product(pairs_of(sheet)[::2], pairs_of(sheet)):
                wanted = word_plainly(choices, pair, other)
                seen.add(wanted)
                self.assert_same(desk(" ".join(["sure", *pair, *other])), wanted)
        self.assertEqual(seen, {"alike", "turned", "free"})

    def test_fewest(self):
        for sheet in few_lines():
            least = len(Plainly(sheet).least()[0])
            self.assert_same(Desk(sheet)("fewest"), str(least) if least <= 3 else "more")
        self.assert_same([Desk(told)("fewest") for told in (square(), wide(), three(), four(), apart(3), many_lines(24),
                                                            many_clean_lines(24))],
                         ["1", "2", "3", "more", "3", "more", "0"])

    def test_great_numbers(self):
        self.assert_same(Desk(Sheet(grid(6, 5)))("many"), str(120 ** 6))


class LevelErrorTests(Case):
    def test_no_level(self):
        for command, number in [("node 2 x", 2), ("node 99 x", 99), ("node 10 a", 10), ("orders 2", 2),
                                ("orders 12", 12)]:
            self.assert_error(InvalidLevel, {"value": number}, Desk(lower()), command)
        self.assert_error(InvalidLevel, {"value": 12}, Desk(great()), "orders 12")
        self.assert_error(InvalidLevel, {"value": 12}, Desk(great()), "node 12 n00x00")

    def test_command_ahead_of_level(self):
        self.assert_error(InvalidCommand, {"value": "orders 012"}, Desk(lower()), "orders 012")
        self.assert_error(InvalidCommand, {"value": "node 7 A"}, Desk(lower()), "node 7 A")


class NameErrorTests(Case):
    def test_names_that_are_there(self):
        for command, name in [("level a", "a"), ("level x d a", "d"), ("level x x", "x"), ("level x y x c", "x"),
                              ("level x c y y", "c"), ("node 0 a", "a"), ("node 1 b", "b"), ("node 0 d", "d")]:
            self.assert_error(NameTaken, {"value": name}, Desk(lower()), command)

    def test_ahead_of_limits(self):
        twelve = Desk(Sheet([["a"], *[[]] * 11]))
        self.assert_error(NameTaken, {"value": "a"}, twelve, "level b a")
        self.assert_error(NameTaken, {"value": "b"}, twelve, "level b b")
        self.assert_error(TooMany, {"what": "levels", "limit": 12}, twelve, "level b")
        names = " ".join(grid(1, 19)[0])
        self.assert_error(TooMany, {"what": "levels", "limit": 12}, twelve, "level " + names)
        self.assert_error(TooMany, {"what": "nodes", "limit": 18}, Desk(Sheet([["a"]])), "level " + names)
        self.assert_error(NameTaken, {"value": "a"}, Desk(Sheet([["a"]])), "level " + names + " a")
        self.assert_same(Desk(Sheet([["a"]]))("level " + " ".join(grid(1, 18)[0])), "1")

    def test_nineteenth_node(self):
        desk = Desk(great())
        self.assert_error(TooMany, {"what": "nodes", "limit": 18}, desk, "node 3 x")
        self.assert_error(NameTaken, {"value": "n00x00"}, desk, "node 3 n00x00")
        self.assert_same(Desk(great().without_node("n03x00"))("node 3 x"), "done")


class LineErrorTests(Case):
    def test_no_node(self):
        for command, name in [("line a x", "x"), ("line x a", "x"), ("line x y", "x"), ("strike x a", "x"),
                              ("strike c x", "x"), ("strike y x", "y"), ("line a 0", "0"), ("sure x y x y", "x"),
                              ("sure a b c x", "x"), ("sure a a a y", "y"), ("sure a c x b", "x"),
                              ("sure a y a x", "y")]:
            for sheet in (lower(), square(), crossed()):
                self.assert_error(UnknownNode, {"value": name}, Desk(sheet), command)

    def test_lines_that_cannot_be(self):
        for line in [("c", "a"), ("a", "b"), ("a", "a"), ("a", "e"), ("d", "c"), ("e", "c")]:
            self.assert_error(InvalidLine, {"value": line}, Desk(crossed()), " ".join(["line", *line]))
            self.assert_error(UnknownLine, {"value": line}, Desk(crossed()), " ".join(["strike", *line]))

    def test_lines_that_are_not_there(self):
        self.assert_error(UnknownLine, {"value": ("b", "c")}, Desk(lower()), "strike b c")
        self.assert_error(UnknownLine, {"value": ("c", "a")}, Desk(lower()), "strike c a")
        desk = Desk(lower())
        desk("strike a c")
        self.assert_error(UnknownLine, {"value": ("a", "c")}, desk, "strike a c")

    def test_200_lines(self):
        desk = Desk(full_sheet())
        there = full_sheet().lines()[0]
        missing = [line for line in all_lines(full_sheet().levels()) if line not in full_sheet()][0]
        wrong = {"what": "lines", "limit": 200}
        self.assert_error(TooMany, wrong, desk, " ".join(["line", *missing]))
        self.assert_error(TooMany, wrong, desk.__iadd__, missing)
        self.assert_error(InvalidLine, {"value": missing[::-1]}, desk, " ".join(["line", *missing[::-1]]))
        self.assert_same([desk(" ".join(["line", *there])), desk(" ".join(["strike", *there])),
                          desk(" ".join(["line", *missing])), len(desk)], ["done", "done", "done", 3])


class SureErrorTests(Case):
    def test_no_pair(self):
        for command, pair in [("sure a a c d", ("a", "a")), ("sure a c c d", ("a", "c")), ("sure a b c c", ("c", "c")),
                              ("sure a b a c", ("a", "c")), ("sure a a c c", ("a", "a")), ("sure b d d b", ("b", "d"))]:
            for sheet in (lower(), crossed()):
                self.assert_error(InvalidPair, {"value": pair}, Desk(sheet), command)
        self.assert_error(InvalidPair, {"value": ("n00x00", "n01x00")}, Desk(great()),
                          "sure n00x00 n01x00 n00x00 n00x01")

    def test_nothing_clean_ahead_of_too_many(self):
        self.assert_error(NothingClean, {}, Desk(crossed()), "sure a b c d")
        self.assert_error(NothingClean, {}, Desk(great()), "sure n00x00 n00x01 n00x00 n00x01")
        free = Desk(Sheet(grid(7, 2)))
        self.assert_error(TooMany, {"what": "levels", "limit": 6}, free, "sure n00x00 n00x01 n06x00 n06x01")


class LimitTests(Case):
    def test_sheets_that_are_not_small(self):
        for sheet, wrong in beyond():
            desk = Desk(sheet)
            for command in ("many", "first", "orders 0"):
                self.assert_error(TooMany, wrong, desk, command)
            self.assert_same([desk("clean"), desk("far")], ["no", "3"] if sheet.lines() else ["yes", "none"])

    def test_24_lines_and_25(self):
        for sheet in (many_lines(25), many_clean_lines(25), great()):
            self.assert_error(TooMany, {"what": "lines", "limit": 24}, Desk(sheet), "fewest")
        desk = Desk(many_lines(25))
        desk("strike n00x00 n01x00")
        self.assert_same(desk("fewest"), "more")

    def test_nothing_to_undo(self):
        self.assert_error(NothingToUndo, {}, Desk(great()), "undo")


if __name__ == "__main__":
    unittest.main()
