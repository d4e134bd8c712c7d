"""The examples of the document, word for word, and those of README.md."""

import doctest
import pathlib
import unittest

STAGE_1 = """
>>> from uplines.sheets import Sheet
>>> sheet = Sheet([["b", "a"], ["c", "d"]], [("b", "c"), ("a", "d")])
>>> [len(sheet), list(sheet), sheet.pairs(), sheet.above("a"), ("a", "c") in sheet]
[2, ['a', 'b', 'c', 'd'], [('a', 'b'), ('b', 'a'), ('c', 'd'), ('d', 'c')], ['d'], False]
>>> [~sheet, sheet.parts()[1], sheet - ("a", "d") == ("b", "c") + Sheet([["a", "b"], ["d", "c"]])]
[Sheet([['c', 'd'], ['a', 'b']], [('c', 'b'), ('d', 'a')]), Sheet([['b'], ['c']], [('b', 'c')]), True]
>>> [(Sheet.chain("x", "y") | sheet).levels(), (Sheet.chain("x") >> sheet).cut(0, 1).lines()]
[[['a', 'b', 'x'], ['c', 'd', 'y']], []]
"""
STAGE_2 = """
>>> from uplines.sheets import Sheet
>>> from uplines.walkers import Walkers, change, class_of, how_far, is_change, lines_of, relation, steps
>>> square = Sheet([["a", "b"], ["c", "d"]], [("a", "c"), ("a", "d"), ("b", "c"), ("b", "d")])
>>> [steps(square, ("a", "b")), len(change(square)), is_change(square, [("a", "b"), ("c", "d"), ("b", "a")])]
[[('c', 'd'), ('d', 'c')], 3, True]
>>> fork = square - ("b", "d")
>>> [change(fork), class_of(fork, ("a", "b")), relation(fork, ("a", "b"), ("c", "d")), how_far(fork, ("a", "b"), ("d", "c"))]
[None, [('a', 'b'), ('d', 'c')], 'turned', 1]
>>> walkers = Walkers(square, ("a", "b")).go(("c", "d"))
>>> [walkers.go(("b", "a")).have_changed(), len(walkers), walkers.back(), walkers.way(), lines_of(square, walkers.way())]
[True, 2, ('c', 'd'), [('a', 'b'), ('c', 'd')], [('a', 'c'), ('b', 'd')]]
"""
STAGE_3 = """
>>> from uplines.clean import first_clean, going_up, has_clean, paper, together
>>> from uplines.drawings import Drawing
>>> from uplines.sheets import Sheet
>>> lower = Sheet([["a", "b"], ["c", "d"]], [("a", "c"), ("a", "d"), ("b", "d")])
>>> full = lower + ("b", "c")
>>> [has_clean(lower), has_clean(full), first_clean(lower).orders(), first_clean(full), paper(lower)[0], paper(full)[0]]
[True, False, [['a', 'b'], ['c', 'd']], None, 'orders', 'change']
>>> other = Drawing(lower, [["b", "a"], ["c", "d"]])
>>> [other.crossings(), other.is_clean, other.swapped(1, 0).is_clean, other.crossings_at("d"), other.is_left("b", "a")]
[[(('a', 'c'), ('b', 'd'))], False, True, 1, True]
>>> [together(lower, 0, ["b", "a"]), going_up(lower, 0), going_up(full, 0), going_up(full, 1)]
[[['d', 'c']], [['a', 'b'], ['b', 'a']], [], [['c', 'd'], ['d', 'c']]]
"""
STAGE_4 = """
>>> from uplines.sheets import Sheet
>>> from uplines.told import Told, bar, is_bar, may_be, orders_beside, orders_of, settled, widened
>>> sheet = Sheet([["a", "b"], ["c", "d"]], [("a", "c"), ("b", "d")])
>>> wide = widened(sheet, {0: ["b", "a"]})
>>> wide.levels()
[['1', 'a', 'b'], ['2', '4', '5', '6', '7'], ['3', 'c', 'd']]
>>> wide.lines()
[('1', '2'), ('1', '6'), ('2', '3'), ('4', 'c'), ('5', 'd'), ('a', '4'), ('a', '7'), ('b', '5'), ('b', '6'), ('b', '7')]
>>> [orders_of(sheet, 0), orders_beside(sheet, 0, ["b", "a"], 1), settled(sheet, {1: ["c", "d"]}), may_be(sheet, {0: ["a", "b"], 1: ["d", "c"]})]
[[['a', 'b'], ['b', 'a']], [['d', 'c']], [0, 1], False]
>>> crossed = {0: ["a", "b"], 1: ["d", "c"]}
>>> [bar(sheet, {0: ["a", "b"]}), is_bar(sheet, crossed, bar(sheet, crossed)), Told(sheet, {0: ["b", "a"]}).settle(), (~Told(sheet, crossed))[1]]
[None, True, Told({0: ['b', 'a'], 1: ['d', 'c']}), ['c', 'd']]
"""
STAGE_5 = """
>>> from uplines.fences import bound, can_keep, fence, is_fence
>>> from uplines.pairs import does_clash, follows, is_trace
>>> from uplines.sheets import Sheet
>>> sheet = Sheet([["a", "b", "c"], ["u", "v"]], [("a", "u"), ("b", "v"), ("c", "v")])
>>> [follows(sheet, [("b", "a")]), does_clash(sheet, [("a", "b"), ("c", "a")]), bound(sheet, [("a", "b")])]
[[('b', 'a'), ('c', 'a'), ('v', 'u')], True, [('a', 'b'), ('a', 'c'), ('u', 'v')]]
>>> is_trace(sheet, [("b", "a")], ("c", "a"), [("told", ("b", "a")), ("step", ("v", "u"), 0), ("step", ("c", "a"), 1)])
True
>>> told = [("b", "a"), ("a", "c")]
>>> [can_keep(sheet, told), is_fence(sheet, told, fence(sheet, told)), fence(sheet, [("b", "a")])]
[False, True, None]
>>> [is_fence(sheet, [("b", "a"), ("a", "c")], [[["b", "a", "c"]], []]), is_fence(sheet, [("b", "a")], [[["b", "a", "c"]], []])]
[True, False]
"""
# Of stage 6 what speaks of counts.
STAGE_6 = """
>>> from uplines.counts import Gallery, drawing_at, how_many
>>> from uplines.sheets import Sheet
>>> sheet = Sheet([["a", "b", "c"], ["x", "y"]], [("a", "x"), ("b", "y"), ("c", "y")])
>>> [how_many(sheet), drawing_at(sheet, 2).orders(), Gallery(sheet)[-1].orders()]
[4, [['b', 'c', 'a'], ['y', 'x']], [['c', 'b', 'a'], ['y', 'x']]]
"""
README = pathlib.Path(__file__).resolve().parent.parent / "README.md"


class ExampleTests(unittest.TestCase):
    def run_examples(self, name, *texts):
        """In examples, names stand for what they were in the last example that gave them."""
        examples = doctest.DocTestParser().get_doctest("".join(texts), {}, name, None, 0)
        self.assertGreater(len(examples.examples), 0)
        told = []
        found = doctest.DocTestRunner(verbose=False).run(examples, out=told.append)
        self.assertEqual(found.failed, 0, "".join(told))

    def test_stage_1(self):
        self.run_examples("stage 1", STAGE_1)

    def test_stage_2(self):
        self.run_examples("stage 2", STAGE_2)

    def test_stage_3(self):
        self.run_examples("stage 3", STAGE_2, STAGE_3)

    def test_stage_4(self):
        self.run_examples("stage 4", STAGE_4)

    def test_stage_5(self):
        self.run_examples("stage 5", STAGE_5)

    def test_stage_6(self):
        self.run_examples("stage 6", STAGE_6)

    def test_readme(self):
        self.run_examples("README.md", README.read_text())


if __name__ == "__main__":
    unittest.main()
