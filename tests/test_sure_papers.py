"""Papers of what is sure: fences and clean drawings, and the judges at any values."""

import copy
import itertools
import unittest

from checking import Case, grid, odd_pairs, odd_values
from plainly import clean_choices, drawn_samples, every_choice, pairs_of, random_sheet
import reading
from spoiling import spoilt, told_as_tuples
from uplines.drawings import Drawing
from uplines.sheets import Sheet
from uplines.sure import (
    are_neighbour_papers, between, between_papers, end_paper, is_end_paper, is_sure_paper, may_end, neighbour_papers,
    neighbours, sure_paper, sure_word,
)


def sheet():
    return Sheet([["a", "b", "c"], ["x", "y"]], [("a", "x"), ("b", "y"), ("c", "y")])


def path():
    return Sheet([["a", "b", "c"], ["x", "y"]], [("a", "x"), ("b", "x"), ("b", "y"), ("c", "y")])


def few():
    """Some sheets with a clean drawing."""
    found = [told for told, _ in drawn_samples(24)] + [random_sheet(seed, 2, 4, 3) for seed in range(4)]
    return [told for told in found if clean_choices(told)]


def drawings_like(told):
    """Drawings of the sheet, clean and crossed, and of sheets that are nearly the same."""
    found = [Drawing(told, choice) for choice in every_choice(told)[::3]]
    found += [Drawing(told.with_level(), choice + [[]]) for choice in every_choice(told)[:2]]
    return found + [drawing - line for drawing in found[:2] for line in told.lines()[:1]]


class SurePaperTests(Case):
    def test_ordinary(self):
        told = sheet()
        word, fence = sure_paper(told, ("a", "b"), ("x", "y"))
        self.assertEqual([word, reading.is_fence(told, [("a", "b"), ("y", "x")], fence)], ["alike", True])
        word, fence = sure_paper(other=("y", "x"), pair=("a", "b"), sheet=told)
        self.assertEqual([word, reading.is_fence(told, [("a", "b"), ("y", "x")], fence)], ["turned", True])
        word, one, other = sure_paper(told, ("a", "b"), ("b", "c"))
        self.assertEqual([word, one.is_left("b", "c"), other.is_left("c", "b")], ["free", True, True])

    def test_all_pairs(self):
        for told in few():
            for pair, other in itertools.product(pairs_of(told)[::2], pairs_of(told)[::3]):
                paper = sure_paper(told, pair, other)
                self.assert_same([type(paper), paper[0]], [tuple, sure_word(told, pair, other)])
                self.assertTrue(reading.is_sure_paper(told, pair, other, paper))
                self.assert_same(is_sure_paper(told, pair, other, paper), True)
                self.assert_same(is_sure_paper(told, pair, other, told_as_tuples(paper)), True)
                self.assert_same(is_sure_paper(told, pair, other[::-1], paper), False)
                self.assert_same(is_sure_paper(told, pair[::-1], other, paper), False)

    def test_a_pair_and_itself(self):
        told = Sheet([["a"], ["b", "c"], ["d", "e", "f"]])
        for pair in pairs_of(told):
            self.assert_same([sure_paper(told, pair, pair)[0], sure_paper(told, pair, pair[::-1])[0]],
                             ["alike", "turned"])
            self.assert_same(is_sure_paper(told, pair, pair, ("alike", sure_paper(told, pair, pair[::-1])[1])), True)
        self.assert_same(is_sure_paper(told, ("b", "c"), ("b", "c"), ("alike", [[["a"]], []])), True)
        self.assert_same(is_sure_paper(told, ("b", "c"), ("b", "c"), ("alike", [[], []])), False)

    def test_words_exchanged(self):
        told = sheet()
        pair, other = ("a", "b"), ("x", "y")
        alike, turned = sure_paper(told, pair, other), sure_paper(told, pair, other[::-1])
        free = sure_paper(told, pair, ("b", "c"))
        for value in [("turned", alike[1]), ("free", alike[1]), ("alike", *free[1:]), ("alike", alike[1], alike[1]),
                      ("free", alike[1], alike[1]), list(alike), ("alike",), (), ("free", free[1]), alike[1],
                      {"alike": alike[1]}, ("alike", None), ("Alike", alike[1]), (None, alike[1]), (True, alike[1])]:
            self.assert_same(is_sure_paper(told, pair, other, value), False)
        self.assert_same(is_sure_paper(told, pair, other[::-1], turned), True)
        self.assert_same(is_sure_paper(told, pair, other, turned), False)

    def test_sequence_of_the_drawings(self):
        told = sheet()
        word, one, other = sure_paper(told, ("a", "b"), ("b", "c"))
        for value, wanted in [((word, one, other), True), ((word, other, one), False), ((word, one, one), False),
                              ((word, -other, other), False), ((word, one, -one), False), ([word, one, other], False),
                              ((word, one.orders(), other.orders()), False), ((word, one, other, other), False),
                              ((word, one, None), False), ((word, one), False)]:
            self.assert_same(is_sure_paper(value=value, other=("b", "c"), pair=("a", "b"), sheet=told), wanted)
        equal = Sheet([["c", "b", "a"], ["y", "x"]], told.lines()[::-1])
        self.assert_same(is_sure_paper(equal, ("a", "b"), ("b", "c"), (word, one, other)), True)

    def test_any_drawings(self):
        for told in few()[::3]:
            drawings = drawings_like(told)
            for pair, other in itertools.product(pairs_of(told)[:2], pairs_of(told)[::3]):
                for one, unlike in itertools.product(drawings[::2], drawings):
                    value = ("free", one, unlike)
                    self.assert_same(is_sure_paper(told, pair, other, value),
                                     reading.is_sure_paper(told, pair, other, value))

    def test_spoilt_in_one_place(self):
        seen = []
        for told, pair, other in [
            (sheet(), ("a", "b"), ("x", "y")), (sheet(), ("a", "b"), ("y", "x")), (sheet(), ("a", "b"), ("b", "c")),
            (path(), ("a", "b"), ("b", "c")), (path(), ("c", "a"), ("x", "y")), (path(), ("x", "y"), ("x", "y")),
        ]:
            paper = sure_paper(told, pair, other)
            held = copy.deepcopy(paper)
            for value in spoilt(paper):
                seen.append(reading.is_sure_paper(told, pair, other, value))
                self.assert_same(is_sure_paper(told, pair, other, value), seen[-1])
            self.assert_same(paper, held)
        self.assertGreater(seen.count(False), 500)

    def test_odd_values(self):
        for value in odd_values() + odd_pairs():
            for word in ("alike", "turned", "free", None):
                for paper in (value, (word, value), (word, value, value), (value, word), (value, value)):
                    self.assert_same(is_sure_paper(sheet(), ("a", "b"), ("x", "y"), paper), False)


class BetweenTests(Case):
    def check(self, told, nodes, papers):
        self.assert_same([type(papers), list(papers)], [dict, sorted(nodes)])
        for node, paper in papers.items():
            one, other = sorted(name for name in nodes if name != node)
            self.assertEqual(isinstance(paper, Drawing), node in between(told, nodes))
            if isinstance(paper, Drawing):
                order = paper[told.level_of(node)]
                places = sorted([order.index(one), order.index(other)])
                self.assertTrue(places[0] < order.index(node) < places[1])
                self.assertTrue(reading.is_drawing(told, [], paper))
            else:
                self.assertTrue(reading.is_fence(told, [(one, node), (node, other)], paper))

    def test_ordinary(self):
        papers = between_papers(nodes=["c", "a", "b"], sheet=sheet())
        self.check(sheet(), ["c", "a", "b"], papers)
        self.assert_same([type(papers[name]) for name in "abc"], [list, Drawing, Drawing])

    def test_all_three_nodes(self):
        seen = []
        for told in few():
            for names in told.levels():
                for nodes in itertools.permutations(names, 3):
                    papers = between_papers(told, nodes)
                    self.check(told, nodes, papers)
                    seen += [type(paper) for paper in papers.values()]
        self.assertGreater(min(seen.count(list), seen.count(Drawing)), 30)

    def test_new_each_time(self):
        between_papers(sheet(), ["a", "b", "c"]).clear()
        between_papers(sheet(), ["a", "b", "c"])["a"].clear()
        self.check(sheet(), ["a", "b", "c"], between_papers(sheet(), ["a", "b", "c"]))


class NeighbourTests(Case):
    def test_ordinary(self):
        papers = neighbour_papers(sheet(), ("b", "c"))
        self.assert_same(list(papers), ["a"])
        self.assertTrue(reading.is_fence(sheet(), [("b", "a"), ("a", "c")], papers["a"]))
        self.assert_same(are_neighbour_papers(sheet(), ("b", "c"), papers), True)
        self.assert_same(are_neighbour_papers(value=papers, pair=("c", "b"), sheet=sheet()), False)
        self.assert_same([neighbour_papers(sheet(), ("a", "b")), neighbour_papers(pair=("x", "y"), sheet=sheet())],
                         [None, {}])

    def test_perhaps_none(self):
        for value, wanted in [({}, True), ([], False), ((), False), (None, False), ({"x": [[]]}, False),
                              ({"a": [[]]}, False), ({None: None}, False)]:
            self.assert_same(are_neighbour_papers(sheet(), ("x", "y"), value), wanted)
        self.assert_same(are_neighbour_papers(sheet(), ("a", "b"), {}), False)

    def test_all_pairs(self):
        seen = 0
        for told in few():
            for pair in pairs_of(told):
                papers = neighbour_papers(told, pair)
                self.assertEqual(papers is not None, tuple(sorted(pair)) in neighbours(told))
                if papers is not None:
                    seen += len(papers)
                    self.assert_same(list(papers), sorted(papers))
                    self.assertTrue(reading.are_neighbour_papers(told, pair, papers))
                    self.assert_same(are_neighbour_papers(told, pair, papers), True)
                    self.assert_same(are_neighbour_papers(told, pair, told_as_tuples(papers)), True)
        self.assertGreaterEqual(seen, 30)

    def test_spoilt_in_one_place(self):
        seen = []
        four = Sheet([["a", "b", "c", "d"], ["x", "y"]], [("a", "x"), ("b", "x"), ("c", "y"), ("d", "y")])
        for told, pair in [(sheet(), ("b", "c")), (path(), ("b", "a")), (path(), ("x", "y")), (four, ("a", "b"))]:
            papers = neighbour_papers(told, pair)
            for value in spoilt(papers, [None, True, [], {}]):
                seen.append(reading.are_neighbour_papers(told, pair, value))
                self.assert_same(are_neighbour_papers(told, pair, value), seen[-1])
        self.assertGreater(seen.count(False), 200)
        self.assertGreater(seen.count(True), 5)


class EndTests(Case):
    def test_ordinary(self):
        self.assert_same(end_paper(sheet(), "b")[0][0], "b")
        self.assert_same(type(end_paper(path(), "b")), list)
        self.assertTrue(reading.is_fence(path(), [("b", "a"), ("b", "c")], end_paper(node="b", sheet=path())))
        self.assert_same(is_end_paper(path(), "b", [[["b", "a", "c"], ("b", "c", "a")], ()]), True)
        self.assert_same(is_end_paper(value=[[["b", "a", "c"]], []], node="b", sheet=path()), False)

    def test_all_nodes(self):
        seen = []
        for told in few():
            for node in told:
                paper = end_paper(told, node)
                seen.append(type(paper))
                self.assertEqual(isinstance(paper, Drawing), node in may_end(told, told.level_of(node)))
                self.assertTrue(reading.is_end_paper(told, node, paper))
                self.assert_same(is_end_paper(told, node, paper), True)
                if isinstance(paper, Drawing):
                    self.assert_same(paper[told.level_of(node)][0], node)
                    self.assert_same(is_end_paper(told, node, paper.orders()), False)
        self.assertGreaterEqual(min(seen.count(list), seen.count(Drawing)), 5)

    def test_a_node_alone(self):
        told = Sheet([["a"], ["b", "c"]])
        self.assert_same(is_end_paper(told, "a", end_paper(told, "a")), True)
        for value in ([[["a"]], [["b", "c"], ["c", "b"]], []], [[]], [[], []], []):
            self.assert_same(is_end_paper(told, "a", value), False)

    def test_any_drawings(self):
        for told in few()[::2]:
            for node, drawing in itertools.product(told, drawings_like(told)):
                self.assert_same(is_end_paper(told, node, drawing), reading.is_end_paper(told, node, drawing))

    def test_spoilt_in_one_place(self):
        seen = []
        for told, node in [(path(), "b"), (sheet(), "a")]:
            for value in spoilt(end_paper(told, node)):
                seen.append(reading.is_end_paper(told, node, value))
                self.assert_same(is_end_paper(told, node, value), seen[-1])
        self.assertGreater(seen.count(False), 100)
        for value in odd_values():
            self.assert_same(is_end_paper(path(), "b", value), False)


class GreatTests(Case):
    def test_the_largest_small_sheets(self):
        told = Sheet(grid(6, 5))
        low, high = told.level(0), told.level(5)
        for pair, other in [((low[0], low[1]), (high[0], high[1])), ((high[0], high[1]), (high[0], high[1])),
                            ((high[0], high[1]), (low[0], low[1])), ((low[4], low[0]), (low[0], low[4]))]:
            paper = sure_paper(told, pair, other)
            self.assert_same(is_sure_paper(told, pair, other, paper), True)
            self.assert_same(is_sure_paper(told, pair, other[::-1], paper), False)
        paper = sure_paper(told, (high[0], high[1]), (high[0], high[1]))
        self.assertEqual([len(orders) for orders in paper[1]], [120] * 5 + [0])
        paper[1][2].pop()
        self.assert_same(is_sure_paper(told, (high[0], high[1]), (high[0], high[1]), paper), False)


if __name__ == "__main__":
    unittest.main()
