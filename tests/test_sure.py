"""What is so in all clean drawings: words of two pairs, classes, who stands between, neighbours, ends, blocks."""

import itertools
import unittest

from checking import Case, grid, odd_pairs, odd_values
from plainly import clean_choices, drawn_samples, pairs_of, random_sheet, sheets_of_two_levels, word_plainly
from small_bounds import beyond, within
from uplines.drawings import Drawing
from uplines.errors import InvalidLevel, InvalidNodes, InvalidPair, NothingClean, TooMany, UnknownNode
from uplines.sheets import Sheet
from uplines.sure import (
    are_neighbour_papers, between, between_papers, blocks, decides, end_paper, is_end_paper, is_sure_paper, may_end,
    neighbour_papers, neighbours, parting, sure_classes, sure_ends, sure_paper, sure_word, undecided,
)
from uplines.walkers import class_of


def sheet():
    return Sheet([["a", "b", "c"], ["x", "y"]], [("a", "x"), ("b", "y"), ("c", "y")])


def four():
    """Levels on which the errors' odd values are no pairs."""
    return Sheet([["a", "b"], ["c", "d"]], [("a", "c"), ("b", "d")])


def square():
    return Sheet([["a", "b"], ["c", "d"]], [("a", "c"), ("a", "d"), ("b", "c"), ("b", "d")])


def great_and_crossed():
    """A sheet that is not small, without a clean drawing."""
    levels = grid(7, 6)
    lines = [(low, high) for low in levels[0][:2] for high in levels[1][:2]]
    return Sheet(levels, lines)


def plenty():
    """Sheets with a clean drawing, each with all lists of orders without a crossing."""
    found = drawn_samples(30)
    found += [(told, clean_choices(told)) for told in list(sheets_of_two_levels())[3::29]]
    found += [(told, clean_choices(told)) for told in [random_sheet(seed, 4, 3, 3) for seed in range(3)]]
    found += [(told, clean_choices(told)) for told in [random_sheet(seed, 2, 4, 3) for seed in range(6)]]
    return [(told, choices) for told, choices in found if choices]


def orders_at(choices, level):
    return [choice[level] for choice in choices]


def is_between(order, node, others):
    one, other = sorted(order.index(name) for name in others)
    return one < order.index(node) < other


def are_side_by_side(order, nodes):
    return any(sorted(order[at:at + len(nodes)]) == sorted(nodes) for at in range(len(order)))


class WordTests(Case):
    def test_ordinary(self):
        self.assert_same(sure_word(sheet(), ("a", "b"), ("x", "y")), "alike")
        self.assert_same(sure_word(sheet(), ("b", "a"), ("x", "y")), "turned")
        self.assert_same(sure_word(other=("b", "c"), pair=("a", "b"), sheet=sheet()), "free")

    def test_a_pair_and_itself(self):
        for told, _ in plenty()[::3]:
            for pair in pairs_of(told):
                self.assert_same([sure_word(told, pair, pair), sure_word(told, pair, pair[::-1])], ["alike", "turned"])

    def test_against_all_choices(self):
        seen = {"alike": 0, "turned": 0, "free": 0}
        for told, choices in plenty():
            for pair, other in itertools.product(pairs_of(told), repeat=2):
                word = sure_word(told, pair, other)
                seen[word] += pair < other
                self.assert_same(word, word_plainly(choices, pair, other))
        self.assertGreater(min(seen.values()), 50)

    def test_walks_lead_to_what_is_surely_alike(self):
        for told, _ in plenty()[::2]:
            for pair in pairs_of(told):
                for other in class_of(told, pair):
                    self.assert_same(sure_word(told, pair, other), "alike")

    def test_not_all_that_is_surely_alike_is_told_by_walks(self):
        told = Sheet([["b5", "d2"], ["a1", "a3", "b1", "f1"], ["b0", "e4", "f3"]], [
            ("a3", "f3"), ("b1", "e4"), ("b5", "f1"), ("d2", "a1"), ("d2", "a3"), ("d2", "f1"), ("f1", "e4"),
            ("f1", "f3")])
        self.assertEqual(word_plainly(clean_choices(told), ("a1", "b1"), ("d2", "b5")), "alike")
        self.assertNotIn(("d2", "b5"), class_of(told, ("a1", "b1")))
        self.assert_same(sure_word(told, ("a1", "b1"), ("d2", "b5")), "alike")
        self.assert_same(sure_word(told, ("a1", "b1"), ("b5", "d2")), "turned")


class ClassTests(Case):
    def test_ordinary(self):
        self.assert_same(sure_classes(sheet()), [[("a", "b"), ("a", "c"), ("x", "y")], [("b", "c")]])
        self.assert_same(sure_classes(sheet=Sheet([["a", "b"]])), [[("a", "b")]])
        self.assert_same([sure_classes(Sheet([[]])), sure_classes(Sheet([["a"], [], ["b"]]))], [[], []])
        self.assert_same(len(sure_classes(Sheet(grid(6, 5)))), 60)

    def test_against_all_choices(self):
        for told, choices in plenty():
            alike = {pair: sorted(other for other in pairs_of(told) if word_plainly(choices, pair, other) == "alike")
                     for pair in pairs_of(told)}
            wanted = []
            for members in alike.values():
                turned = sorted(pair[::-1] for pair in members)
                if min(members, turned) not in wanted:
                    wanted.append(min(members, turned))
            self.assert_same(sure_classes(told), sorted(wanted))


class BetweenTests(Case):
    def test_ordinary(self):
        self.assert_same(between(sheet(), ["c", "a", "b"]), ["b", "c"])
        self.assert_same(between(nodes=("b", "c", "a"), sheet=sheet()), ["b", "c"])
        self.assert_same(between(Sheet([["c", "b", "a"]]), ["a", "b", "c"]), ["a", "b", "c"])

    def test_against_all_choices(self):
        seen = []
        for told, choices in plenty():
            for level, names in enumerate(told.levels()):
                for nodes in itertools.permutations(names, 3):
                    wanted = [
                        node for node in sorted(nodes)
                        if any(is_between(order, node, [name for name in nodes if name != node])
                               for order in orders_at(choices, level))
                    ]
                    seen.append(len(wanted))
                    self.assert_same(between(told, list(nodes)), wanted)
        self.assertEqual(set(seen), {1, 2, 3})

    def test_no_three_nodes(self):
        told = Sheet([["a", "b", "c", "d"], ["x", "y", "z"]])
        for action in (between, between_papers):
            for value in [*odd_values(), [], ["a", "b"], ["a", "b", "c", "d"], "abc", {"a": 1, "b": 2, "c": 3}]:
                if not isinstance(value, (list, tuple)) or len(value) != 3:
                    self.assert_error(InvalidNodes, {"position": None}, action, told, value)
            for at in range(3):
                for value in odd_values() + ["q", "", "e", ["a"], ("a", "b"), True, 0]:
                    nodes = ["a", "b", "c"][:at] + [value] + ["a", "b", "c"][at + 1:]
                    self.assert_error(InvalidNodes, {"position": at}, action, told, nodes)
                    self.assert_error(InvalidNodes, {"position": at}, action, told, tuple(nodes))
            for nodes, at in [(["a", "a", "b"], 1), (["a", "b", "a"], 2), (["a", "x", "y"], 1), (["x", "y", "a"], 2),
                              (["a", "a", None], 1), (["a", "x", "a"], 1), (["a", "b", "b"], 2), (["q", "q", "q"], 0)]:
                self.assert_error(InvalidNodes, {"position": at}, action, told, nodes)
                self.assert_error(InvalidNodes, {"position": at}, action, nodes=nodes, sheet=told)


class NeighbourTests(Case):
    def test_ordinary(self):
        self.assert_same(neighbours(sheet()), [("b", "c"), ("x", "y")])
        self.assert_same(neighbours(sheet=Sheet([["b", "a"]])), [("a", "b")])
        self.assert_same([neighbours(Sheet([[], ["a"]])), neighbours(Sheet([["c", "b", "a"]]))], [[], []])

    def test_against_all_choices(self):
        seen = 0
        for told, choices in plenty():
            wanted = []
            for level, names in enumerate(told.levels()):
                wanted += [pair for pair in itertools.combinations(names, 2)
                           if all(are_side_by_side(order, pair) for order in orders_at(choices, level))]
            seen += len(wanted)
            self.assert_same(neighbours(told), sorted(wanted))
        self.assertGreater(seen, 40)

    def test_parting(self):
        drawing = parting(pair=("a", "b"), sheet=sheet())
        self.assertTrue(drawing.is_clean and is_between(drawing[0], "c", ("a", "b")))
        self.assert_same([parting(sheet(), ("b", "c")), parting(sheet(), ("y", "x"))], [None, None])
        for told, _ in plenty():
            for pair in pairs_of(told):
                drawing = parting(told, pair)
                self.assert_same(drawing is None, tuple(sorted(pair)) in neighbours(told))
                if drawing is not None:
                    self.assert_same([type(drawing), drawing.sheet, drawing.is_clean], [Drawing, told, True])
                    order = drawing[told.level_of(pair[0])]
                    self.assertFalse(are_side_by_side(order, pair))


class EndTests(Case):
    def test_ordinary(self):
        self.assert_same([may_end(sheet(), 0), sure_ends(sheet(), 0)], [["a", "b", "c"], ["a"]])
        self.assert_same([may_end(level=1, sheet=sheet()), sure_ends(level=1, sheet=sheet())], [["x", "y"], ["x", "y"]])
        path = Sheet([["a", "b", "c"], ["x", "y"]], [("a", "x"), ("b", "x"), ("b", "y"), ("c", "y")])
        self.assert_same([may_end(path, 0), sure_ends(path, 0)], [["a", "c"], ["a", "c"]])

    def test_levels_of_at_most_one_node(self):
        told = Sheet([["a"], [], ["b", "c"]])
        self.assert_same([may_end(told, 0), sure_ends(told, 0), blocks(told, 0)], [["a"], ["a"], []])
        self.assert_same([may_end(told, 1), sure_ends(told, 1), blocks(told, 1)], [[], [], []])
        self.assert_same([may_end(told, 2), sure_ends(told, 2), blocks(told, 2)], [["b", "c"], ["b", "c"], []])

    def test_against_all_choices(self):
        for told, choices in plenty():
            for level, names in enumerate(told.levels()):
                orders = orders_at(choices, level)
                self.assert_same(may_end(told, level), sorted({order[0] for order in orders if order}))
                self.assert_same(sure_ends(told, level), [
                    node for node in names if all(node in (order[0], order[-1]) for order in orders)])


class BlockTests(Case):
    def test_ordinary(self):
        self.assert_same([blocks(sheet(), 0), blocks(level=1, sheet=sheet())], [[["b", "c"]], []])
        path = Sheet([["a", "b", "c", "d"], ["x", "y", "z"]],
                     [("a", "x"), ("b", "x"), ("b", "y"), ("c", "y"), ("c", "z"), ("d", "z")])
        self.assert_same(blocks(path, 0), [["a", "b"], ["a", "b", "c"], ["b", "c"], ["b", "c", "d"], ["c", "d"]])
        self.assert_same(blocks(Sheet([["a", "b", "c", "d", "e"]]), 0), [])

    def test_against_all_choices(self):
        seen = 0
        for told, choices in plenty():
            for level, names in enumerate(told.levels()):
                wanted = [
                    list(some) for many in range(2, len(names)) for some in itertools.combinations(names, many)
                    if all(are_side_by_side(order, some) for order in orders_at(choices, level))
                ]
                seen += len(wanted)
                self.assert_same(blocks(told, level), sorted(wanted))
        self.assertGreater(seen, 20)

    def test_blocks_with_nodes_in_common(self):
        for told, choices in plenty():
            for level in range(len(told)):
                for one, other in itertools.combinations(blocks(told, level), 2):
                    common = [node for node in one if node in other]
                    if common:
                        for order in orders_at(choices, level):
                            self.assertTrue(are_side_by_side(order, common))
                            self.assertTrue(are_side_by_side(order, sorted(set(one + other))))


class DecideTests(Case):
    def test_ordinary(self):
        self.assert_same([decides(sheet(), 0, 1), decides(sheet(), 1, 0)], [True, False])
        self.assert_same(decides(other=0, level=1, sheet=sheet()), False)
        self.assert_same(undecided(other=1, level=0, sheet=sheet()), None)

    def test_levels_of_at_most_one_node(self):
        told = Sheet([["a"], ["b", "c"], [], ["d"]], [("a", "b")])
        self.assert_same([decides(told, 0, level) for level in range(4)], [True, False, True, True])
        self.assert_same([decides(told, 1, level) for level in range(4)], [True, True, True, True])
        self.assert_same([decides(told, 2, level) for level in range(4)], [True, False, True, True])

    def test_against_all_choices(self):
        seen = []
        for told, choices in plenty():
            for level, other in itertools.product(range(len(told)), repeat=2):
                with_it = {}
                for choice in choices:
                    with_it.setdefault(tuple(choice[level]), set()).add(tuple(choice[other]))
                wanted = all(len(orders) == 1 for orders in with_it.values())
                seen.append(wanted)
                self.assert_same(decides(told, level, other), wanted)
                found = undecided(told, level, other)
                self.assertEqual(found is None, wanted)
                if found is not None:
                    one, unlike = found
                    self.assert_same([type(found), len(found), one.is_clean, unlike.is_clean], [tuple, 2, True, True])
                    self.assert_same([one.sheet, unlike.sheet], [told, told])
                    self.assert_same([one[level] == unlike[level], one[other] == unlike[other]], [True, False])
        self.assertGreater(min(seen.count(True), seen.count(False)), 50)


class ErrorTests(Case):
    def actions(self, told):
        """Each function with a sheet of levels of two nodes at least, and arguments that are valid."""
        pairs = [tuple(names[:2]) for names in told.levels()]
        found = [
            (sure_word, [pairs[0], pairs[1]]), (sure_paper, [pairs[0], pairs[1]]),
            (is_sure_paper, [pairs[0], pairs[1], None]), (sure_classes, []), (neighbours, []), (parting, [pairs[0]]),
            (neighbour_papers, [pairs[0]]), (are_neighbour_papers, [pairs[0], {}]), (may_end, [0]), (sure_ends, [0]),
            (end_paper, [pairs[0][0]]), (is_end_paper, [pairs[0][0], None]), (blocks, [0]), (decides, [0, 1]),
            (undecided, [0, 1]),
        ]
        if len(told.level(0)) > 2:
            found += [(between, [told.level(0)[:3]]), (between_papers, [told.level(0)[:3]])]
        return found

    def test_nothing_clean(self):
        for told in (square(), great_and_crossed()):
            for action, passed in self.actions(told):
                self.assert_error(NothingClean, {}, action, told, *passed)

    def test_too_many(self):
        great = Sheet(grid(7, 6))
        for action, passed in self.actions(great):
            self.assert_error(TooMany, {"what": "levels", "limit": 6}, action, great, *passed)
        for action, passed in self.actions(Sheet(grid(6, 6))):
            self.assert_error(TooMany, {"what": "nodes", "limit": 5}, action, Sheet(grid(6, 6)), *passed)
        levels = grid(2, 18)
        many = Sheet([levels[0][:1], levels[1][:13]], [(levels[0][0], high) for high in levels[1][:13]])
        self.assert_error(TooMany, {"what": "nodes", "limit": 5}, sure_classes, many)

    def test_bounds(self):
        for told in within():
            for action, passed in [(sure_classes, []), (neighbours, []), (may_end, [0]), (blocks, [0])]:
                if max([len(told.gap(gap)) for gap in range(len(told) - 1)], default=0) < 10:
                    action(told, *passed)
                else:
                    self.assert_error(NothingClean, {}, action, told, *passed)
        for told, wrong in beyond():
            for action, passed in [(sure_classes, []), (neighbours, []), (sure_ends, [0]), (decides, [0, 0])]:
                if told.lines():
                    self.assert_error(NothingClean, {}, action, told, *passed)
                else:
                    self.assert_error(TooMany, wrong, action, told, *passed)

    def test_no_pair(self):
        for told in (four(), square()):
            for value in odd_pairs():
                wrong = {"value": value}
                for action in (sure_word, sure_paper):
                    self.assert_error(InvalidPair, wrong, action, told, value, None)
                    self.assert_error(InvalidPair, wrong, action, told, ("a", "b"), value)
                    self.assert_error(InvalidPair, wrong, action, other=value, pair=("d", "c"), sheet=told)
                self.assert_error(InvalidPair, wrong, is_sure_paper, told, value, None, None)
                self.assert_error(InvalidPair, wrong, is_sure_paper, told, ("c", "d"), value, None)
                for action in (parting, neighbour_papers):
                    self.assert_error(InvalidPair, wrong, action, told, value)
                    self.assert_error(InvalidPair, wrong, action, pair=value, sheet=told)
                self.assert_error(InvalidPair, wrong, are_neighbour_papers, told, value, {})

    def test_no_level(self):
        for told in (four(), square(), great_and_crossed() | Sheet([[]] * 7)):
            for value in odd_values() + [len(told), -2, "0", [0], (0,)]:
                wrong = {"value": value}
                for action in (may_end, sure_ends, blocks):
                    self.assert_error(InvalidLevel, wrong, action, told, value)
                    self.assert_error(InvalidLevel, wrong, action, level=value, sheet=told)
                for action in (decides, undecided):
                    self.assert_error(InvalidLevel, wrong, action, told, value, "")
                    self.assert_error(InvalidLevel, wrong, action, told, 1, value)
                    self.assert_error(InvalidLevel, wrong, action, other=value, level=0, sheet=told)

    def test_no_node(self):
        for told in (four(), square()):
            for value in odd_values() + ["e", "", ("a", "c"), ["a"], 0]:
                self.assert_error(UnknownNode, {"value": value}, end_paper, told, value)
                self.assert_error(UnknownNode, {"value": value}, end_paper, node=value, sheet=told)
                self.assert_error(UnknownNode, {"value": value}, is_end_paper, told, value, None)

    def test_told_values_are_new(self):
        told = sheet()
        sure_classes(told)[0].clear()
        neighbours(told).clear(), may_end(told, 0).clear(), sure_ends(told, 0).clear()
        between(told, ["a", "b", "c"]).clear()
        blocks(told, 0)[0].clear()
        nodes = ["c", "a", "b"]
        self.assert_same([between(told, nodes), nodes], [["b", "c"], ["c", "a", "b"]])
        self.assert_same([len(sure_classes(told)[0]), len(neighbours(told)), blocks(told, 0)], [3, 2, [["b", "c"]]])
        self.assert_same([len(may_end(told, 0)), sure_ends(told, 0)], [3, ["a"]])


if __name__ == "__main__":
    unittest.main()
