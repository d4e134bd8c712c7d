"""Trees against struck lines, and changes that are apart."""

import copy
import itertools
import unittest

from checking import Case, full_sheet, odd_counts, odd_pairs, odd_values
from plainly import grown_sheet
import reading
from spoiling import spoilt, told_as_tuples
from striking import (
    Plainly, apart, few_lines, four, free, many_clean_lines, many_lines, square, sure, three, uneven, wide,
)
from uplines.errors import InvalidNumber
from uplines.sheets import Sheet
from uplines.struck import are_apart, fewest, helps, is_tree_against, tree_against
from uplines.walkers import change, change_from

CHANGE = [("c", "d"), ("b", "a"), ("d", "c")]


class TreeTests(Case):
    def test_ordinary(self):
        self.assert_same([tree_against(square(), 1), tree_against(many=2, sheet=square())], [None, None])
        self.assert_same(tree_against(square(), 0)[0], "change")
        self.assert_same(is_tree_against(square(), 0, ("change", CHANGE)), True)
        self.assert_same(is_tree_against(value=("change", CHANGE), many=1, sheet=square()), False)
        word, walk, trees = tree_against(wide(), 1)
        self.assert_same([word, type(walk), list(trees)], ["strike", list, reading.passed(wide(), walk)])
        self.assert_same([tree[0] for tree in trees.values()], ["change"] * len(trees))

    def test_a_tree_or_lines_that_help(self):
        seen = []
        # Upside down the names of the lower levels come behind those of the upper ones.
        for told in [*few_lines(), ~three(), ~sure(), four(), many_lines(24), many_lines(17), apart(3), apart(6)]:
            for many in range(3):
                tree = tree_against(told, many)
                self.assertEqual(tree is None, fewest(told) is not None and fewest(told) <= many)
                seen.append((many, tree is None))
                if tree is not None:
                    self.assertTrue(reading.is_tree(told, many, tree))
                    self.assertTrue(self.is_sorted(tree))
                    self.assert_same(is_tree_against(told, many, tree), True)
                    self.assert_same(is_tree_against(told, many, told_as_lists_of_tuples(tree)), True)
                    for other in range(3):
                        self.assert_same(is_tree_against(told, other, tree), other == many)
        self.assertEqual(set(seen), {(many, none) for many in range(3) for none in (True, False)})

    def test_the_lines_of_several_gaps_are_sorted(self):
        """Upside down, the lines of the upper gap come ahead of those of the lower one."""
        for seed in (0, 2, 3, 4):
            one = ~grown_sheet(seed, 3, 3)
            renamed = [(low.replace("n", "m"), high.replace("n", "m")) for low, high in one.lines()]
            other = Sheet([[name.replace("n", "m") for name in names] for names in one.levels()], renamed)
            tree = tree_against(one | other, 1)
            self.assertEqual(len({one.level_of(line[0].replace("m", "n")) for line in tree[2]}), 2)
            self.assertTrue(self.is_sorted(tree) and reading.is_tree(one | other, 1, tree))
            self.assert_same(is_tree_against(one | other, 1, tree), True)

    def is_sorted(self, tree):
        if tree[0] == "change":
            return True
        return list(tree[2]) == sorted(tree[2]) and all(self.is_sorted(part) for part in tree[2].values())

    def test_against_all_choices(self):
        for told in few_lines():
            least = len(Plainly(told).least()[0])
            self.assertEqual([tree_against(told, many) is None for many in range(3)],
                             [many >= least for many in range(3)])

    def test_nothing_is_shared(self):
        tree = tree_against(four(), 2)
        held = copy.deepcopy(tree)
        for line, part in list(tree[2].items()):
            for other in list(part[2]):
                part[2][other][1].clear()
                del part[2][other]
                self.assertTrue(all(len(rest[2]) >= 4 for rest in tree[2].values() if rest is not part))
            part[1].clear()
            del tree[2][line]
        self.assert_same(tree_against(four(), 2), held)

    def test_any_change_may_stand_in_it(self):
        told = square()
        for start in told.pairs():
            walk = change_from(told, start)
            for longer in (walk, walk[:1] + walk[1:2] + walk, walk + walk[1:] + walk[1:]):
                tree = ("change", longer)
                self.assert_same(is_tree_against(told, 0, tree), reading.is_change(told, longer))
        longer = CHANGE + CHANGE[1::-1] + CHANGE[1:]
        self.assert_same(is_tree_against(told, 0, ("change", longer)), reading.is_change(told, longer))
        for walk in [change_from(wide(), start) for start in wide().pairs()]:
            trees = {line: ("change", change(wide() - line)) for line in reading.passed(wide(), walk)}
            self.assert_same(is_tree_against(wide(), 1, ("strike", walk, trees)), True)
            for line in trees:
                self.assert_same(is_tree_against(wide(), 1, ("strike", walk, {**trees, line: ("change", walk)})), False)

    def test_just_the_lines_of_the_walk(self):
        word, walk, trees = tree_against(wide(), 1)
        for line in trees:
            rest = {other: trees[other] for other in trees if other != line}
            self.assert_same(is_tree_against(wide(), 1, (word, walk, rest)), False)
            self.assert_same(is_tree_against(wide(), 1, (word, walk, {**rest, line[::-1]: trees[line]})), False)
        more = [line for line in wide().lines() if line not in trees]
        tree = ("change", change(wide() - more[0]))
        self.assert_same(is_tree_against(wide(), 1, (word, walk, {**trees, more[0]: tree})), False)
        turned = {line: trees[line] for line in reversed(list(trees))}
        self.assert_same(is_tree_against(wide(), 1, (word, walk, turned)), True)

    def test_without_the_line(self):
        """A change that goes along the struck line shows nothing of the sheet without it."""
        word, walk, trees = tree_against(wide(), 1)
        self.assert_same(is_tree_against(wide(), 1, (word, walk, {line: ("change", walk) for line in trees})), False)

    def test_spoilt_in_one_place(self):
        seen = []
        for told, many in [(square(), 0), (wide(), 0), (wide(), 1), (three(), 1)]:
            tree = tree_against(told, many)
            for value in spoilt(tree, [None, True, 0, [], (("zz", "zz"),)]):
                seen.append(reading.is_tree(told, many, value))
                self.assert_same(is_tree_against(told, many, value), seen[-1])
        self.assertGreater(seen.count(False), 1000)

    def test_deep_trees_spoilt(self):
        told = three()
        tree = tree_against(told, 2)
        one = next(iter(tree[2]))
        for value in spoilt(tree[2][one], [None, ("change", CHANGE)]):
            whole = ("strike", tree[1], {**tree[2], one: value})
            self.assert_same(is_tree_against(told, 2, whole), reading.is_tree(told - one, 1, value))

    def test_odd_values(self):
        for value in odd_values() + odd_pairs() + [CHANGE, ["change", CHANGE], ("change", CHANGE, {}), ("change",),
                                                   ("strike", CHANGE), {"change": CHANGE}]:
            for many in range(3):
                self.assert_same(is_tree_against(square(), many, value), False)
                self.assert_same(is_tree_against(wide(), many, ("strike", tree_against(wide(), 1)[1], value)), False)
                self.assert_same(is_tree_against(square(), many, (value, CHANGE)), False)

    def test_number(self):
        for told in (square(), free(), many_lines(25), full_sheet()):
            for value in odd_counts() + [3, 4, 24, 10 ** 29, "0", [0]]:
                self.assert_error(InvalidNumber, {"value": value}, tree_against, told, value)
                self.assert_error(InvalidNumber, {"value": value}, is_tree_against, told, value, None)
                self.assert_error(InvalidNumber, {"value": value}, is_tree_against, many=value, value=None, sheet=told)

    def test_with_a_clean_drawing(self):
        for told in (free(), Sheet([[]]), many_clean_lines(24)):
            for many in range(3):
                self.assert_same(tree_against(told, many), None)
                self.assert_same(is_tree_against(told, many, ("change", [])), False)
                self.assert_same(is_tree_against(told, many, ("strike", [], {})), False)


def told_as_lists_of_tuples(tree):
    """The tree with its walks as tuples; what is told as a tuple stays one."""
    if tree[0] == "change":
        return told_as_tuples(tree)
    trees = {line: told_as_lists_of_tuples(tree[2][line]) for line in reversed(list(tree[2]))}
    return (tree[0], tuple(tree[1]), trees)


class ApartTests(Case):
    def test_ordinary(self):
        told = apart(3)
        walks = [[(f"a{at}", f"b{at}"), (f"c{at}", f"d{at}"), (f"b{at}", f"a{at}")] for at in range(3)]
        self.assert_same([are_apart(told, walks), are_apart(value=tuple(walks), sheet=told)], [True, True])
        self.assert_same([are_apart(told, walks + walks[:1]), are_apart(told, [])], [False, True])
        for value in (walks, walks[:2], tuple(map(tuple, walks)), walks[::-1], walks[:1], [], (), walks * 2):
            self.assert_same(are_apart(told, value), self.right(told, value))

    def right(self, told, value):
        if not isinstance(value, (list, tuple)) or not all(reading.is_change(told, walk) for walk in value):
            return False
        lines = [line for walk in value for line in reading.passed(told, walk)]
        return len(lines) == len(set(lines))

    def test_all_choices_of_changes(self):
        seen = []
        for told in [square(), wide(), sure(), uneven(), apart(2), apart(3)]:
            found = [walk for walk in [change_from(told, start) for start in told.pairs()] if walk]
            for many in range(4):
                for value in list(itertools.combinations(found, many))[::7 if many == 3 else 1]:
                    seen.append((len(value), self.right(told, value)))
                    self.assert_same(are_apart(told, list(value)), seen[-1][1])
        self.assertLessEqual({(0, True), (1, True), (2, True), (2, False), (3, True), (3, False)}, set(seen))

    def test_no_fewer_lines_help(self):
        told = apart(3)
        walks = [change_from(told, (f"a{at}", f"b{at}")) for at in range(3)]
        self.assert_same([are_apart(told, walks), fewest(told)], [True, 3])
        self.assertFalse(any(helps(told, some) for some in itertools.combinations(told.lines(), 2)))

    def test_the_same_change_twice(self):
        walk = change(square())
        self.assert_same([are_apart(square(), [walk]), are_apart(square(), [walk, walk])], [True, False])
        self.assert_same(are_apart(square(), [walk, walk[::-1]]), False)

    def test_odd_values(self):
        walk = change(square())
        for value in odd_values():
            self.assert_same(are_apart(square(), value), value in ([], ()))
            self.assert_same([are_apart(square(), [walk, value]), are_apart(square(), [value])], [False, False])
        for value in [walk, "walk", {0: walk}, [[]], [()], [walk[:2]], [walk[:1]]]:
            self.assert_same(are_apart(square(), value), False)
        for value in spoilt([walk]):
            self.assert_same(are_apart(square(), value), self.right(square(), value))

    def test_great_sheets(self):
        told = full_sheet()
        walk = change(told)
        self.assert_same([are_apart(told, [walk]), are_apart(told, [walk, walk]), are_apart(told, [])],
                         [True, False, True])


if __name__ == "__main__":
    unittest.main()
