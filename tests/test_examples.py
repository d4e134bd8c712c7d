"""The examples of the document, word for word, and those of README.md."""

import doctest
import pathlib
import unittest

STAGE_1 = """
>>> from uplines.sheets import Sheet
>>> sheet = Sheet([["b", "a"], ["c", "d"]], [("b", "c"), ("a", "d")])
>>> [len(sheet), list(sheet), sheet.pairs(), sheet.above("a"), ("a", "c") in sheet]
[2, ['a', 'b', 'c', 'd'], [('a', 'b'), ('b', 'a'), ('c', 'd'), ('d', 'c')], ['d'], False]
>>> [~sheet, sheet.parts()[1], sheet - ("a", "d") == ("b", "c") + Sheet([["a", "b"], ["d", "c"]])]
[Sheet([['c', 'd'], ['a', 'b']], [('c', 'b'), ('d', 'a')]), Sheet([['b'], ['c']], [('b', 'c')]), True]
>>> [(Sheet.chain("x", "y") | sheet).levels(), (Sheet.chain("x") >> sheet).cut(0, 1).lines()]
[[['a', 'b', 'x'], ['c', 'd', 'y']], []]
"""
STAGE_2 = """
>>> from uplines.sheets import Sheet
>>> from uplines.walkers import Walkers, change, class_of, how_far, is_change, lines_of, relation, steps
>>> square = Sheet([["a", "b"], ["c", "d"]], [("a", "c"), ("a", "d"), ("b", "c"), ("b", "d")])
>>> [steps(square, ("a", "b")), len(change(square)), is_change(square, [("a", "b"), ("c", "d"), ("b", "a")])]
[[('c', 'd'), ('d', 'c')], 3, True]
>>> fork = square - ("b", "d")
>>> [change(fork), class_of(fork, ("a", "b")), relation(fork, ("a", "b"), ("c", "d")), how_far(fork, ("a", "b"), ("d", "c"))]
[None, [('a', 'b'), ('d', 'c')], 'turned', 1]
>>> walkers = Walkers(square, ("a", "b")).go(("c", "d"))
>>> [walkers.go(("b", "a")).have_changed(), len(walkers), walkers.back(), walkers.way(), lines_of(square, walkers.way())]
[True, 2, ('c', 'd'), [('a', 'b'), ('c', 'd')], [('a', 'c'), ('b', 'd')]]
"""
STAGE_3 = """
>>> from uplines.clean import first_clean, going_up, has_clean, paper, together
>>> from uplines.drawings import Drawing
>>> from uplines.sheets import Sheet
>>> lower = Sheet([["a", "b"], ["c", "d"]], [("a", "c"), ("a", "d"), ("b", "d")])
>>> full = lower + ("b", "c")
>>> [has_clean(lower), has_clean(full), first_clean(lower).orders(), first_clean(full), paper(lower)[0], paper(full)[0]]
[True, False, [['a', 'b'], ['c', 'd']], None, 'orders', 'change']
>>> other = Drawing(lower, [["b", "a"], ["c", "d"]])
>>> [other.crossings(), other.is_clean, other.swapped(1, 0).is_clean, other.crossings_at("d"), other.is_left("b", "a")]
[[(('a', 'c'), ('b', 'd'))], False, True, 1, True]
>>> [together(lower, 0, ["b", "a"]), going_up(lower, 0), going_up(full, 0), going_up(full, 1)]
[[['d', 'c']], [['a', 'b'], ['b', 'a']], [], [['c', 'd'], ['d', 'c']]]
"""
STAGE_4 = """
>>> from uplines.sheets import Sheet
>>> from uplines.told import Told, bar, is_bar, may_be, orders_beside, orders_of, settled, widened
>>> sheet = Sheet([["a", "b"], ["c", "d"]], [("a", "c"), ("b", "d")])
>>> wide = widened(sheet, {0: ["b", "a"]})
>>> wide.levels()
[['1', 'a', 'b'], ['2', '4', '5', '6', '7'], ['3', 'c', 'd']]
>>> wide.lines()
[('1', '2'), ('1', '6'), ('2', '3'), ('4', 'c'), ('5', 'd'), ('a', '4'), ('a', '7'), ('b', '5'), ('b', '6'), ('b', '7')]
>>> [orders_of(sheet, 0), orders_beside(sheet, 0, ["b", "a"], 1), settled(sheet, {1: ["c", "d"]}), may_be(sheet, {0: ["a", "b"], 1: ["d", "c"]})]
[[['a', 'b'], ['b', 'a']], [['d', 'c']], [0, 1], False]
>>> crossed = {0: ["a", "b"], 1: ["d", "c"]}
>>> [bar(sheet, {0: ["a", "b"]}), is_bar(sheet, crossed, bar(sheet, crossed)), Told(sheet, {0: ["b", "a"]}).settle(), (~Told(sheet, crossed))[1]]
[None, True, Told({0: ['b', 'a'], 1: ['d', 'c']}), ['c', 'd']]
"""
STAGE_5 = """
>>> from uplines.fences import bound, can_keep, fence, is_fence
>>> from uplines.pairs import does_clash, follows, is_trace
>>> from uplines.sheets import Sheet
>>> sheet = Sheet([["a", "b", "c"], ["u", "v"]], [("a", "u"), ("b", "v"), ("c", "v")])
>>> [follows(sheet, [("b", "a")]), does_clash(sheet, [("a", "b"), ("c", "a")]), bound(sheet, [("a", "b")])]
[[('b', 'a'), ('c', 'a'), ('v', 'u')], True, [('a', 'b'), ('a', 'c'), ('u', 'v')]]
>>> is_trace(sheet, [("b", "a")], ("c", "a"), [("told", ("b", "a")), ("step", ("v", "u"), 0), ("step", ("c", "a"), 1)])
True
>>> told = [("b", "a"), ("a", "c")]
>>> [can_keep(sheet, told), is_fence(sheet, told, fence(sheet, told)), fence(sheet, [("b", "a")])]
[False, True, None]
>>> [is_fence(sheet, [("b", "a"), ("a", "c")], [[["b", "a", "c"]], []]), is_fence(sheet, [("b", "a")], [[["b", "a", "c"]], []])]
[True, False]
"""
STAGE_6 = """
>>> from uplines.counts import Gallery, drawing_at, how_many
>>> from uplines.sheets import Sheet
>>> from uplines.sure import between, blocks, decides, may_end, neighbours, sure_classes, sure_ends, sure_word
>>> sheet = Sheet([["a", "b", "c"], ["x", "y"]], [("a", "x"), ("b", "y"), ("c", "y")])
>>> [how_many(sheet), drawing_at(sheet, 2).orders(), Gallery(sheet)[-1].orders(), sure_word(sheet, ("a", "b"), ("x", "y"))]
[4, [['b', 'c', 'a'], ['y', 'x']], [['c', 'b', 'a'], ['y', 'x']], 'alike']
>>> [between(sheet, ["c", "a", "b"]), neighbours(sheet), may_end(sheet, 0), sure_ends(sheet, 0), blocks(sheet, 0)]
[['b', 'c'], [('b', 'c'), ('x', 'y')], ['a', 'b', 'c'], ['a'], [['b', 'c']]]
>>> [sure_classes(sheet), decides(sheet, 0, 1), decides(sheet, 1, 0)]
[[[('a', 'b'), ('a', 'c'), ('x', 'y')], [('b', 'c')]], True, False]
"""
STAGE_7 = """
>>> from uplines.struck import Strike, fewest, helps, is_tree_against, least_lists, surely_struck, tree_against
>>> [fewest(square), least_lists(square), surely_struck(square), tree_against(square, 1)]
[1, [[('a', 'c')], [('a', 'd')], [('b', 'c')], [('b', 'd')]], [], None]
>>> is_tree_against(square, 0, ("change", [("c", "d"), ("b", "a"), ("d", "c")]))
True
>>> wide = Sheet([["a", "b"], ["c", "d", "e"]], [("a", "c"), ("a", "d"), ("a", "e"), ("b", "c"), ("b", "d"), ("b", "e")])
>>> [fewest(wide), len(least_lists(wide)), helps(wide, [("a", "c")]), Strike(wide, ("a", "d"), ("b", "e")).does_help, tree_against(wide, 1)[0]]
[2, 12, False, True, 'strike']
>>> one = Strike(square, ("a", "c"))
>>> [one, one.is_within(one + ("b", "d")), (one | Strike(square, ("a", "d"))).lines(), Strike.least(square) == one, one.rest == square - ("a", "c")]
[Strike([('a', 'c')]), True, [('a', 'c'), ('a', 'd')], True, True]
"""
STAGE_8 = """
>>> from uplines.growing import Grower
>>> from uplines.more import coming, filled, foes, is_refusal, may_come
>>> sheet = Sheet([["b", "a"], ["c", "d"]], [("b", "c"), ("a", "d")])
>>> [coming(sheet), foes(sheet), filled(sheet).lines()]
[[('a', 'c'), ('b', 'd')], [(('a', 'c'), ('b', 'd'))], [('a', 'c'), ('a', 'd'), ('b', 'c')]]
>>> [may_come(filled(sheet), ("b", "d")), is_refusal(filled(sheet), ("b", "d"), [("d", "c"), ("a", "b"), ("c", "d")])]
[False, True]
>>> grower = Grower(["a", "b"])
>>> [grower.level(), grower.node("c"), grower.node("d"), grower([("a", "d"), ("b", "c")]), grower.orders()]
[1, None, None, 2, [['c', 'd'], ['d', 'c']]]
>>> grower.tie("a", "c")
>>> [grower.may("b", "d"), len(grower), grower.undo(), grower.log()[-1]]
[False, 5, None, ('lines', [('a', 'd'), ('b', 'c')])]
"""
STAGE_9 = """
>>> from uplines.claims import is_paper, is_true, paper_for
>>> from uplines.desk import Desk
>>> from uplines.texts import read_sheet, text_of
>>> text_of(lower)
'level a b\\nlevel c d\\nline a c\\nline a d\\nline b d\\n'
>>> [read_sheet(text_of(full)) == full, is_true({"claim": "crossed", "sheet": text_of(full)}), is_true({"claim": "count", "sheet": text_of(lower), "number": 2})]
[True, True, True]
>>> paper_for({"claim": "count", "sheet": text_of(lower), "number": 2})
[{('a', 'b'): 1, ('b', 'a'): 1}, {('c', 'd'): 1, ('d', 'c'): 1}]
>>> desk = Desk(Sheet([["a", "b"]]))
>>> desk.do_all("level c d", "line a c", "line b d", "clean", "first", "many", "line a d", "line b c", "clean", "far", "fewest", "undo", "orders 1")
['1', 'done', 'done', 'yes', 'a,b c,d', '2', 'done', 'done', 'no', '3', '1', '4', 'c,d d,c']
>>> [desk("sure a b c d"), desk("sure a b d c"), len(desk), Desk.is_command("line a"), desk.log()[-1]]
['alike', 'turned', 4, False, 'line a d']
"""
README = pathlib.Path(__file__).resolve().parent.parent / "README.md"


class ExampleTests(unittest.TestCase):
    def run_examples(self, name, *texts):
        """In examples, names stand for what they were in the last example that gave them."""
        examples = doctest.DocTestParser().get_doctest("".join(texts), {}, name, None, 0)
        self.assertGreater(len(examples.examples), 0)
        told = []
        found = doctest.DocTestRunner(verbose=False).run(examples, out=told.append)
        self.assertEqual(found.failed, 0, "".join(told))

    def test_stage_1(self):
        self.run_examples("stage 1", STAGE_1)

    def test_stage_2(self):
        self.run_examples("stage 2", STAGE_2)

    def test_stage_3(self):
        self.run_examples("stage 3", STAGE_2, STAGE_3)

    def test_stage_4(self):
        self.run_examples("stage 4", STAGE_4)

    def test_stage_5(self):
        self.run_examples("stage 5", STAGE_5)

    def test_stage_6(self):
        self.run_examples("stage 6", STAGE_6)

    def test_stage_7(self):
        self.run_examples("stage 7", STAGE_2, STAGE_7)

    def test_stage_8(self):
        self.run_examples("stage 8", STAGE_1, STAGE_8)

    def test_stage_9(self):
        self.run_examples("stage 9", STAGE_3, STAGE_9)

    def test_one_after_the_other(self):
        stages = [STAGE_1, STAGE_2, STAGE_3, STAGE_4, STAGE_5, STAGE_6, STAGE_7, STAGE_8, STAGE_9]
        self.run_examples("all stages", *stages)

    def test_readme(self):
        self.run_examples("README.md", README.read_text())


if __name__ == "__main__":
    unittest.main()
