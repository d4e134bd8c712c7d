"""The examples of the document, word for word, and those of README.md."""

import doctest
import pathlib
import unittest

STAGE_1 = """
>>> from uplines.sheets import Sheet
>>> sheet = Sheet([["b", "a"], ["c", "d"]], [("b", "c"), ("a", "d")])
>>> [len(sheet), list(sheet), sheet.pairs(), sheet.above("a"), ("a", "c") in sheet]
[2, ['a', 'b', 'c', 'd'], [('a', 'b'), ('b', 'a'), ('c', 'd'), ('d', 'c')], ['d'], False]
>>> [~sheet, sheet.parts()[1], sheet - ("a", "d") == ("b", "c") + Sheet([["a", "b"], ["d", "c"]])]
[Sheet([['c', 'd'], ['a', 'b']], [('c', 'b'), ('d', 'a')]), Sheet([['b'], ['c']], [('b', 'c')]), True]
>>> [(Sheet.chain("x", "y") | sheet).levels(), (Sheet.chain("x") >> sheet).cut(0, 1).lines()]
[[['a', 'b', 'x'], ['c', 'd', 'y']], []]
"""
STAGE_2 = """
>>> from uplines.sheets import Sheet
>>> from uplines.walkers import Walkers, change, class_of, how_far, is_change, lines_of, relation, steps
>>> square = Sheet([["a", "b"], ["c", "d"]], [("a", "c"), ("a", "d"), ("b", "c"), ("b", "d")])
>>> [steps(square, ("a", "b")), len(change(square)), is_change(square, [("a", "b"), ("c", "d"), ("b", "a")])]
[[('c', 'd'), ('d', 'c')], 3, True]
>>> fork = square - ("b", "d")
>>> [change(fork), class_of(fork, ("a", "b")), relation(fork, ("a", "b"), ("c", "d")), how_far(fork, ("a", "b"), ("d", "c"))]
[None, [('a', 'b'), ('d', 'c')], 'turned', 1]
>>> walkers = Walkers(square, ("a", "b")).go(("c", "d"))
>>> [walkers.go(("b", "a")).have_changed(), len(walkers), walkers.back(), walkers.way(), lines_of(square, walkers.way())]
[True, 2, ('c', 'd'), [('a', 'b'), ('c', 'd')], [('a', 'c'), ('b', 'd')]]
"""

STAGE_3 = """
>>> from uplines.clean import first_clean, going_up, has_clean, paper, together
>>> from uplines.drawings import Drawing
>>> from uplines.sheets import Sheet
>>> lower = Sheet([["a", "b"], ["c", "d"]], [("a", "c"), ("a", "d"), ("b", "d")])
>>> full = lower + ("b", "c")
>>> [has_clean(lower), has_clean(full), first_clean(lower).orders(), first_clean(full), paper(lower)[0], paper(full)[0]]
[True, False, [['a', 'b'], ['c', 'd']], None, 'orders', 'change']
>>> other = Drawing(lower, [["b", "a"], ["c", "d"]])
>>> [other.crossings(), other.is_clean, other.swapped(1, 0).is_clean, other.crossings_at("d"), other.is_left("b", "a")]
[[(('a', 'c'), ('b', 'd'))], False, True, 1, True]
>>> [together(lower, 0, ["b", "a"]), going_up(lower, 0), going_up(full, 0), going_up(full, 1)]
[[['d', 'c']], [['a', 'b'], ['b', 'a']], [], [['c', 'd'], ['d', 'c']]]
"""
README = pathlib.Path(__file__).resolve().parent.parent / "README.md"


class ExampleTests(unittest.TestCase):
    def run_examples(self, name, *texts):
        """In examples, names stand for what they were in the last example that gave them."""
        examples = doctest.DocTestParser().get_doctest("".join(texts), {}, name, None, 0)
        self.assertGreater(len(examples.examples), 0)
        told = []
        found = doctest.DocTestRunner(verbose=False).run(examples, out=told.append)
        self.assertEqual(found.failed, 0, "".join(told))

    def test_stage_1(self):
        self.run_examples("stage 1", STAGE_1)

    def test_stage_2(self):
        self.run_examples("stage 2", STAGE_2)

    def test_stage_3(self):
        self.run_examples("stage 3", STAGE_2, STAGE_3)

    def test_readme(self):
        self.run_examples("README.md", README.read_text())


if __name__ == "__main__":
    unittest.main()
