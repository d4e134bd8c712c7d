"""The examples of the document, word for word, and those of README.md."""

import doctest
import pathlib
import unittest

STAGE_1 = """
>>> from uplines.sheets import Sheet
>>> sheet = Sheet([["b", "a"], ["c", "d"]], [("b", "c"), ("a", "d")])
>>> [len(sheet), list(sheet), sheet.pairs(), sheet.above("a"), ("a", "c") in sheet]
[2, ['a', 'b', 'c', 'd'], [('a', 'b'), ('b', 'a'), ('c', 'd'), ('d', 'c')], ['d'], False]
>>> [~sheet, sheet.parts()[1], sheet - ("a", "d") == ("b", "c") + Sheet([["a", "b"], ["d", "c"]])]
[Sheet([['c', 'd'], ['a', 'b']], [('c', 'b'), ('d', 'a')]), Sheet([['b'], ['c']], [('b', 'c')]), True]
>>> [(Sheet.chain("x", "y") | sheet).levels(), (Sheet.chain("x") >> sheet).cut(0, 1).lines()]
[[['a', 'b', 'x'], ['c', 'd', 'y']], []]
"""
README = pathlib.Path(__file__).resolve().parent.parent / "README.md"


class ExampleTests(unittest.TestCase):
    def run_examples(self, name, text):
        examples = doctest.DocTestParser().get_doctest(text, {}, name, None, 0)
        self.assertGreater(len(examples.examples), 0)
        told = []
        found = doctest.DocTestRunner(verbose=False).run(examples, out=told.append)
        self.assertEqual(found.failed, 0, "".join(told))

    def test_stage_1(self):
        self.run_examples("stage 1", STAGE_1)

    def test_readme(self):
        self.run_examples("README.md", README.read_text())


if __name__ == "__main__":
    unittest.main()
