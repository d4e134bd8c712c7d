"""The class Walkers: two walkers who are led over a sheet."""

import copy
import random
import unittest

from checking import Case, full_sheet, odd_pairs, odd_values
from plainly import pairs_of, samples
from uplines.errors import InvalidPair, NothingToUndo, Refused
from uplines.sheets import Sheet
from uplines.walkers import Walkers, is_change, is_walk, steps


def ladder():
    """Three levels, all of which hang together, with steps up and down from the middle."""
    return Sheet([["a", "b"], ["c", "d", "e"], ["f", "g"]],
                 [("a", "c"), ("b", "d"), ("b", "e"), ("c", "f"), ("d", "g"), ("e", "g")])


def led():
    """Walkers who have made three steps."""
    return Walkers(ladder(), ("a", "b")).go(("c", "d")).go(("f", "g")).go(("c", "e"))


WAY = [("a", "b"), ("c", "d"), ("f", "g"), ("c", "e")]


class Oops(Exception):
    pass


class LedTests(Case):
    def test_ordinary(self):
        walkers = Walkers(ladder(), ("a", "b"))
        self.assert_same([walkers.sheet, walkers.pair, walkers.way()], [ladder(), ("a", "b"), [("a", "b")]])
        self.assert_same([len(walkers), walkers.ups, walkers.downs, walkers.have_changed()], [0, 0, 0, False])
        self.assertIs(walkers.go(("c", "d")), walkers)
        self.assert_same([walkers.pair, walkers.way(), len(walkers)], [("c", "d"), WAY[:2], 1])
        walkers.go(goal=("f", "g")).go(("c", "e"))
        self.assert_same([walkers.pair, walkers.way(), len(walkers)], [("c", "e"), WAY, 3])
        self.assert_same([walkers.ups, walkers.downs], [2, 1])

    def test_by_name(self):
        walkers = Walkers(pair=("b", "a"), sheet=ladder())
        self.assertIsNone(walkers.begin(pair=("g", "f")))
        self.assert_same(walkers.go(goal=("d", "c")).way(), [("g", "f"), ("d", "c")])
        self.assert_same([walkers.ups, walkers.downs], [0, 1])

    def test_in_place(self):
        walkers = same = Walkers(ladder(), ("a", "b"))
        walkers += ("c", "e")
        self.assertIs(walkers, same)
        self.assert_same(same.way(), [("a", "b"), ("c", "e")])

    def test_back(self):
        walkers = led()
        self.assert_same([walkers.back(), walkers.back(), walkers.way()], [("f", "g"), ("c", "d"), WAY[:2]])
        self.assert_same([walkers.ups, walkers.downs, len(walkers)], [1, 0, 1])
        self.assert_same([walkers.back(), walkers.pair], [("a", "b"), ("a", "b")])
        self.assert_error(NothingToUndo, {}, walkers.back)
        self.assert_same(walkers.go(("c", "e")).way(), [("a", "b"), ("c", "e")])

    def test_begin(self):
        walkers = led()
        self.assertIsNone(walkers.begin(("d", "e")))
        self.assert_same([walkers.pair, walkers.way(), len(walkers)], [("d", "e"), [("d", "e")], 0])
        self.assert_same([walkers.ups, walkers.downs], [0, 0])
        self.assert_error(NothingToUndo, {}, walkers.back)

    def test_setter(self):
        walkers = led()
        walkers.pair = ("g", "f")
        self.assert_same([walkers.pair, walkers.way(), len(walkers)], [("g", "f"), [("g", "f")], 0])
        self.assert_error(NothingToUndo, {}, walkers.back)
        walkers = led()
        walkers.pair = walkers.pair
        self.assert_same(walkers.way(), [("c", "e")])

    def test_have_changed(self):
        square = Sheet([["a", "b"], ["c", "d"]], [("a", "c"), ("a", "d"), ("b", "c"), ("b", "d")])
        walkers = Walkers(square, ("a", "b"))
        told = [walkers.have_changed()]
        for goal in [("c", "d"), ("b", "a"), ("d", "c"), ("a", "b"), ("d", "c"), ("b", "a")]:
            walkers.go(goal)
            told.append(walkers.have_changed())
            self.assertIs(walkers.have_changed(), is_change(square, walkers.way()))
        self.assert_same(told, [False, False, True, False, False, False, True])

    def test_at_random(self):
        chance = random.Random(5)
        for sheet in [sheet for sheet in samples() if pairs_of(sheet)] + [full_sheet()]:
            pairs = pairs_of(sheet)
            walkers = Walkers(sheet, pairs[-1])
            way = [pairs[-1]]
            for _ in range(40):
                near = steps(sheet, way[-1])
                if near and chance.randrange(3):
                    way.append(chance.choice(near))
                    self.assertIs(walkers.go(way[-1]), walkers)
                elif len(way) > 1:
                    way.pop()
                    self.assert_same(walkers.back(), way[-1])
                levels = [sheet.level_of(pair[0]) for pair in way]
                self.assert_same([walkers.way(), list(walkers), len(walkers)], [way, way, len(way) - 1])
                self.assertEqual(walkers.ups - walkers.downs, levels[-1] - levels[0])
                self.assertEqual(walkers.ups + walkers.downs, len(way) - 1)
                self.assertTrue(is_walk(sheet, way[0], way[-1], walkers.way()))


class ReadTests(Case):
    def test_in(self):
        walkers = led()
        for pair in WAY:
            self.assertTrue(pair in walkers)
        for value in odd_pairs() + [("b", "a"), ("d", "e"), ["a", "b"], list(WAY), WAY, walkers, ladder()]:
            self.assertFalse(value in walkers)
        walkers.back()
        self.assertFalse(("c", "e") in walkers)

    def test_iteration(self):
        walkers = led()
        self.assert_same([list(walkers), [pair for pair in walkers]], [WAY, WAY])
        told = []
        for pair in walkers:
            told.append(pair)
            if len(told) == 2:
                walkers.back()
        self.assert_same(told, WAY)

    def test_told_lists_are_new(self):
        walkers = led()
        walkers.way().clear()
        walkers.way().append(("a", "b"))
        self.assert_same([walkers.way(), len(walkers)], [WAY, 3])

    def test_equal(self):
        self.assertTrue(led() == led())
        self.assertFalse(led() != led())
        other = led()
        other.back()
        self.assertFalse(led() == other)
        self.assertTrue(led() != other)
        self.assertTrue(led() == other.go(("c", "e")))
        self.assertFalse(led() == led().go(("f", "g")))
        self.assertFalse(Walkers(ladder(), ("a", "b")) == Walkers(ladder(), ("b", "a")))
        lesser = ladder() - ("e", "g")
        self.assertFalse(Walkers(ladder(), ("a", "b")) == Walkers(lesser, ("a", "b")))
        for value in odd_values() + [WAY, ladder(), ("c", "e")]:
            self.assertFalse(led() == value)
            self.assertTrue(led() != value)

    def test_sheet_is_not_set(self):
        walkers = led()
        for name in ("sheet", "ups", "downs"):
            with self.assertRaises(AttributeError):
                setattr(walkers, name, 1)


class CopyTests(Case):
    def test_a_copy_goes_on_by_itself(self):
        walkers = led()
        other = walkers.copy()
        self.assertTrue(walkers == other and walkers is not other)
        self.assertIs(type(other), Walkers)
        other.back()
        self.assert_same([walkers.way(), other.way()], [WAY, WAY[:3]])
        walkers.begin(("d", "e"))
        self.assert_same([walkers.way(), other.way()], [[("d", "e")], WAY[:3]])
        other += ("c", "d")
        self.assert_same([len(walkers), other.way(), other.sheet], [0, WAY[:3] + [("c", "d")], ladder()])

    def test_a_copy_in_a_block(self):
        walkers = led()
        with self.assertRaises(Oops):
            with walkers:
                walkers.back()
                other = walkers.copy()
                raise Oops()
        self.assert_same([walkers.way(), other.way()], [WAY, WAY[:3]])
        with self.assertRaises(Oops):
            with other:
                other.back()
                raise Oops()
        self.assert_same(other.way(), WAY[:3])


class BlockTests(Case):
    def test_without_an_error(self):
        walkers = led()
        with walkers as one:
            self.assertIs(one, walkers)
            one.back()
            walkers.back()
        self.assert_same(walkers.way(), WAY[:2])

    def test_with_an_error(self):
        for kind in (Oops, KeyError, KeyboardInterrupt, InvalidPair):
            for leave in (lambda one: one.back(), lambda one: one.go(("a", "b")), lambda one: one.begin(("d", "e")),
                          lambda one: setattr(one, "pair", ("g", "f"))):
                walkers = led()
                error = kind(1)
                with self.assertRaises(kind) as caught:
                    with walkers as one:
                        leave(one)
                        self.assertFalse(walkers == led())
                        raise error
                self.assertIs(caught.exception, error)
                self.assertTrue(walkers == led())
                self.assert_same([walkers.back(), len(walkers), walkers.ups], [("f", "g"), 2, 2])

    def test_an_error_of_their_own(self):
        walkers = led()
        with self.assertRaises(Refused):
            with walkers as one:
                one.go(("f", "g"))
                one.go(("b", "a"))
        self.assert_same(walkers.way(), WAY)

    def test_blocks_in_blocks(self):
        walkers = led()
        with walkers:
            walkers.back()
            with self.assertRaises(Oops):
                with walkers:
                    walkers.back()
                    with walkers:
                        walkers.back()
                    self.assert_same(walkers.way(), WAY[:1])
                    raise Oops()
            self.assert_same(walkers.way(), WAY[:3])
        self.assert_same(walkers.way(), WAY[:3])
        with self.assertRaises(Oops):
            with walkers:
                with walkers:
                    walkers.back()
                self.assert_same(walkers.way(), WAY[:2])
                raise Oops()
        self.assert_same(walkers.way(), WAY[:3])

    def test_one_block_after_the_other(self):
        walkers = led()
        for _ in range(2):
            with self.assertRaises(Oops):
                with walkers:
                    walkers.begin(("d", "e"))
                    raise Oops()
            self.assert_same(walkers.way(), WAY)
        with walkers:
            walkers.back()
        self.assert_same(walkers.way(), WAY[:3])

    def test_left_by_return(self):
        def leave(walkers):
            with walkers as one:
                return one.back()
        walkers = led()
        self.assert_same([leave(walkers), walkers.way()], [("f", "g"), WAY[:3]])


class ErrorTests(Case):
    def plus(self, walkers, value):
        walkers += value

    def test_no_pair(self):
        for value in odd_pairs():
            wrong = {"value": value}
            self.assert_error(InvalidPair, wrong, Walkers, ladder(), value)
            walkers = led()
            self.assert_error(InvalidPair, wrong, walkers.go, value)
            self.assert_error(InvalidPair, wrong, walkers.begin, value)
            self.assert_error(InvalidPair, wrong, setattr, walkers, "pair", value)
            self.assert_error(InvalidPair, wrong, self.plus, walkers, value)
            self.assert_same(walkers.way(), WAY)

    def test_no_step(self):
        for value in pairs_of(ladder()):
            if value not in steps(ladder(), ("c", "e")):
                walkers = led()
                self.assert_error(Refused, {"value": value}, walkers.go, value)
                self.assert_error(Refused, {"value": value}, self.plus, walkers, value)
                self.assert_same(walkers.way(), WAY)

    def test_what_is_passed_stays(self):
        sheet = ladder()
        held = copy.deepcopy(sheet)
        Walkers(sheet, ("a", "b")).go(("c", "d")).back()
        self.assertEqual(sheet, held)


if __name__ == "__main__":
    unittest.main()
