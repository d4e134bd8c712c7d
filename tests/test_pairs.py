"""What follows from told pairs, traces and clash papers."""

import copy
import unittest

from checking import Case, grid, odd_pair_lists, odd_pairs, odd_values
from plainly import closure, lists_of_pairs, near_pairs, pairs_of, samples
from small_bounds import beyond, within
from uplines.errors import InvalidPair, InvalidPairs, TooMany
from uplines.pairs import clash, does_clash, follows, is_clash, is_trace, trace
from uplines.sheets import Sheet


def sheet():
    return Sheet([["a", "b", "c"], ["u", "v"]], [("a", "u"), ("b", "v"), ("c", "v")])


def four():
    """Levels on which the errors' odd values are no pairs."""
    return Sheet([["a", "b"], ["c", "d"]], [("a", "c"), ("b", "d")])


def right(told, pairs, rows):
    """Whether a list is a trace, by the document's words."""
    near = near_pairs(told)
    for at, row in enumerate(rows):
        ahead = [other[1] for other in rows[:at]]
        if row[0] == "told":
            if len(row) != 2 or row[1] not in list(pairs):
                return False
        elif row[0] == "step":
            if len(row) != 3 or not 0 <= row[2] < at or row[1] not in near[ahead[row[2]]]:
                return False
        else:
            (a, b), (other, c) = ahead[row[2]], ahead[row[3]]
            if row[0] != "three" or len(row) != 4 or b != other or a == c or row[1] != (a, c):
                return False
    return len(rows) > 0


class FollowsTests(Case):
    def test_ordinary(self):
        self.assert_same(follows(sheet(), [("b", "a")]), [("b", "a"), ("c", "a"), ("v", "u")])
        self.assert_same(does_clash(sheet(), [("a", "b"), ("c", "a")]), True)
        self.assert_same(follows(sheet(), [("b", "c")]), [("b", "c")])
        self.assert_same(follows(sheet(), [("a", "b"), ("b", "c")]), [("a", "b"), ("a", "c"), ("b", "c"), ("u", "v")])
        self.assert_same(follows(pairs=(("b", "a"), ("b", "a")), sheet=sheet()), follows(sheet(), [("b", "a")]))

    def test_threes(self):
        alone = Sheet([["d", "c", "b", "a"]])
        self.assert_same(follows(alone, [("c", "b"), ("d", "c"), ("b", "a")]),
                         [("b", "a"), ("c", "a"), ("c", "b"), ("d", "a"), ("d", "b"), ("d", "c")])
        self.assert_same(does_clash(alone, [("a", "b"), ("b", "c"), ("c", "a")]), True)
        self.assert_same(does_clash(alone, [("a", "b"), ("c", "b")]), False)
        self.assertEqual(len(follows(alone, [("a", "b"), ("b", "c"), ("c", "a")])), 6)

    def test_edges(self):
        for told in (Sheet([[]]), Sheet([["a"]]), Sheet([["a", "b"]]), sheet(), Sheet([[], []])):
            self.assert_same([follows(told, []), follows(told, ()), does_clash(told, [])], [[], [], False])
            self.assert_same([clash(told, []), is_clash(told, [], [])], [None, False])
        self.assert_same(does_clash(Sheet([["a", "b"]]), [("a", "b"), ("b", "a")]), True)

    def test_against_the_closure(self):
        some = 0
        for told in samples(60):
            for pairs in lists_of_pairs(told):
                wanted = closure(told, pairs)
                self.assert_same(follows(told, pairs), wanted)
                clashes = any(pair[::-1] in wanted for pair in wanted)
                some += clashes
                self.assert_same(does_clash(pairs=pairs, sheet=told), clashes)
        self.assertGreater(some, 50)

    def test_the_largest_small_sheets(self):
        levels = grid(6, 5)
        stairs = Sheet(levels, [(names[at], more[at + by]) for names, more in zip(levels, levels[1:])
                                for at in range(5) for by in (0, 1) if at + by < 5])
        self.assertEqual(len(follows(stairs, [tuple(levels[0][:2])])), 60)
        self.assert_same(does_clash(stairs, [tuple(levels[0][:2])]), False)
        self.assertEqual(len(follows(stairs, stairs.pairs())), 120)

    def test_what_is_passed_stays(self):
        pairs = [("b", "a"), ("a", "c")]
        held = copy.deepcopy(pairs)
        follows(sheet(), pairs).clear()
        trace(sheet(), pairs, ("b", "c")).clear()
        clash(sheet(), pairs).clear()
        self.assert_same(pairs, held)
        self.assertEqual(len(follows(sheet(), pairs)), len(closure(sheet(), pairs)))


class TraceTests(Case):
    def test_ordinary(self):
        shown = [("told", ("b", "a")), ("step", ("v", "u"), 0), ("step", ("c", "a"), 1)]
        self.assert_same(is_trace(sheet(), [("b", "a")], ("c", "a"), shown), True)
        self.assert_same(is_trace(sheet(), (("b", "a"),), ("c", "a"), tuple(shown)), True)
        self.assert_same(is_trace(sheet(), [("b", "a")], ("v", "u"), shown), False)
        self.assert_same(is_trace(value=shown[:2], pair=("v", "u"), pairs=[("b", "a")], sheet=sheet()), True)
        self.assert_same(trace(pair=("b", "c"), pairs=[("b", "a")], sheet=sheet()), None)

    def test_of_all_pairs(self):
        for told in samples(40):
            for pairs in lists_of_pairs(told):
                following = closure(told, pairs)
                for pair in pairs_of(told):
                    found = trace(told, pairs, pair)
                    self.assertEqual(found is not None, pair in following)
                    if found is not None:
                        self.assertEqual([type(found)] + [type(row) for row in found], [list] + [tuple] * len(found))
                        self.assertTrue(right(told, pairs, found) and found[-1][1] == pair)
                        self.assert_same(is_trace(told, pairs, pair, found), True)
                        self.assertLessEqual(len(found), 2000)

    def test_longer_ones_are_judged_too(self):
        shown = [("told", ("b", "a")), ("told", ("b", "a")), ("step", ("v", "u"), 1), ("step", ("b", "a"), 2),
                 ("step", ("c", "a"), 2), ("told", ("a", "c")), ("three", ("b", "c"), 3, 5)]
        pairs = [("b", "a"), ("a", "c")]
        for many in range(1, 8):
            self.assert_same(is_trace(sheet(), pairs, shown[many - 1][1], shown[:many]), True)

    def test_spoilt_in_one_place(self):
        pairs = [("b", "a"), ("a", "c")]
        shown = [("told", ("b", "a")), ("step", ("v", "u"), 0), ("told", ("a", "c")), ("three", ("b", "c"), 0, 2)]
        self.assert_same(is_trace(sheet(), pairs, ("b", "c"), shown), True)
        spoilt = {
            0: [("told", ("a", "b")), ("told", ["b", "a"]), ["told", ("b", "a")], ("told", ("b", "a"), 0), ("told",),
                ("step", ("b", "a"), 1), ("step", ("b", "a"), 0), ("told", "ba"), ("tell", ("b", "a")), (), "told",
                (b"told", ("b", "a")), (("b", "a"), "told"), {"told": ("b", "a")}, ("told", ("b", "nope"))],
            1: [("step", ("v", "u"), 1), ("step", ("v", "u"), 2), ("step", ("v", "u"), -4), ("step", ("v", "u"), False),
                ("step", ("v", "u"), None), ("step", ("v", "u"), "0"), ("step", ("v", "u")), ("told", ("v", "u")),
                ("step", ("u", "v"), 0), ("step", ("v", "u"), 0, 0), ("three", ("v", "u"), 0), ("step", ["v", "u"], 0),
                ("step", ("v", "u"), [0]), ("step", ("v", "u"), 10 ** 29), ["step", ("v", "u"), 0]],
            2: [("step", ("a", "c"), 0), ("step", ("a", "c"), 1), ("told", ("c", "a")), ("told", ("b", "c")), None,
                ("told", ("a", "c"), 0), ("told", ("a", "c"), 0, 1), ("told", ("a", "c"), None)],
            3: [("three", ("b", "c"), 2, 0), ("three", ("b", "c"), 0, 3), ("three", ("b", "c"), False, 2),
                ("three", ("b", "c"), 0), ("three", ("b", "c")), ("three", ("b", "c"), 0, 2, 2),
                ("step", ("b", "c"), 0, 2), ("three", ("b", "c"), 0, 0), ("three", ("b", "c"), -4, 2),
                ("three", ("b", "c"), 0, -2), ("three", ("b", "c"), 0, 1), ("three", ("c", "b"), 0, 2),
                ("three", ["b", "c"], 0, 2), ["three", ("b", "c"), 0, 2], ("three", ("b", "a"), 0, 2),
                ("told", ("b", "c")), ("three", ("b", "c"), (0, 2)), ("four", ("b", "c"), 0, 2),
                ("three", None, 0, 0), ("three", None, 2, 0), (None, ("b", "c"), 0, 2),
                ("told", ("b", "c"), 0, 2), (3, ("b", "c"), 0, 2), ("three", "bc", 0, 2)],
        }
        for at in spoilt:
            for value in spoilt[at] + odd_values() + odd_pairs():
                rows = shown[:at] + [value] + shown[at + 1:]
                self.assert_same(is_trace(sheet(), pairs, ("b", "c"), rows), False)
                self.assert_same(is_clash(sheet(), pairs, rows), False)

    def test_threes_need_unlike_ends(self):
        pairs = [("a", "b"), ("b", "a")]
        shown = [("told", ("a", "b")), ("told", ("b", "a")), ("three", ("a", "a"), 0, 1)]
        self.assert_same(is_clash(Sheet([["a", "b"]]), pairs, shown), False)
        self.assert_same(is_clash(Sheet([["a", "b"]]), pairs, shown[:2]), True)

    def test_no_trace(self):
        for value in odd_values() + odd_pairs() + [[], (), "told", ("told", ("a", "b")), {0: ("told", ("a", "b"))},
                                                   [["told", ("a", "b")]], [[("told", ("a", "b"))]], sheet()]:
            self.assert_same(is_trace(four(), [("a", "b")], ("a", "b"), value), False)
            self.assert_same(is_clash(four(), [("a", "b"), ("b", "a")], value), False)


class ClashTests(Case):
    def test_ordinary(self):
        pairs = [("a", "b"), ("c", "a")]
        found = clash(sheet(), pairs)
        self.assertTrue(right(sheet(), pairs, found))
        self.assert_same([is_clash(sheet(), pairs, found), is_clash(sheet(), pairs, tuple(found))], [True, True])
        self.assert_same(is_clash(value=found, pairs=pairs, sheet=sheet()), True)
        self.assert_same([is_clash(sheet(), pairs, found[:-1]), is_clash(sheet(), pairs[:1], found)], [False, False])
        self.assert_same(clash(pairs=[("a", "b")], sheet=sheet()), None)

    def test_against_the_closure(self):
        for told in samples(60):
            for pairs in lists_of_pairs(told):
                following = closure(told, pairs)
                found = clash(told, pairs)
                self.assertEqual(found is not None, any(pair[::-1] in following for pair in following))
                if found is not None:
                    self.assertIs(type(found), list)
                    self.assertTrue(right(told, pairs, found))
                    self.assertIn(found[-1][1][::-1], [row[1] for row in found[:-1]])
                    self.assert_same(is_clash(told, pairs, found), True)

    def test_the_turned_one_comes_last(self):
        pairs = [("a", "b"), ("b", "a"), ("b", "c")]
        shown = [("told", pair) for pair in pairs]
        self.assert_same([is_clash(sheet(), pairs, shown[:2]), is_clash(sheet(), pairs, shown)], [True, False])
        self.assert_same([is_clash(sheet(), pairs, shown[1:]), is_clash(sheet(), pairs, shown[::-1])], [False, True])


class ErrorTests(Case):
    def test_no_pairs(self):
        for position, value in odd_pair_lists():
            wrong = {"position": position}
            for action in (follows, does_clash, clash):
                self.assert_error(InvalidPairs, wrong, action, four(), value)
                self.assert_error(InvalidPairs, wrong, action, pairs=value, sheet=four())
            self.assert_error(InvalidPairs, wrong, trace, four(), value, None)
            self.assert_error(InvalidPairs, wrong, is_trace, four(), value, None, None)
            self.assert_error(InvalidPairs, wrong, is_clash, four(), value, None)

    def test_no_pair(self):
        for value in odd_pairs():
            self.assert_error(InvalidPair, {"value": value}, trace, four(), [("a", "b")], value)
            self.assert_error(InvalidPair, {"value": value}, is_trace, four(), [("a", "b")], value, None)

    def test_bounds(self):
        for told in within():
            follows(told, told.pairs()), does_clash(told, []), clash(told, told.pairs())
        for told, bound in beyond():
            for pairs in ([], told.pairs()):
                for action in (follows, does_clash, clash):
                    self.assert_error(TooMany, bound, action, told, pairs)
                self.assert_error(TooMany, bound, is_clash, told, pairs, None)
                for pair in told.pairs()[:2]:
                    self.assert_error(TooMany, bound, trace, told, pairs, pair)
                    self.assert_error(TooMany, bound, is_trace, told, pairs, pair, None)
            for action in (follows, does_clash, clash):
                self.assert_error(InvalidPairs, {"position": None}, action, told, None)
            self.assert_error(InvalidPairs, {"position": 0}, is_clash, told, [None], None)
            self.assert_error(InvalidPair, {"value": None}, trace, told, [], None)
            self.assert_error(InvalidPair, {"value": None}, is_trace, told, [], None, None)


if __name__ == "__main__":
    unittest.main()
