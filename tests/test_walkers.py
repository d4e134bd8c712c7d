"""Steps, walks and changes, told of any sheet."""

import copy
import unittest

from checking import Case, deep, full_sheet, grid, odd_counts, odd_pairs, odd_values
from plainly import distances, grown_sheet, is_walk_plainly, least_turning, near_pairs, pairs_of, samples
from uplines.errors import InvalidNumber, InvalidPair, InvalidWalk, TooMany
from uplines.sheets import Sheet
from uplines.walkers import (
    all_walks, change, change_from, class_of, classes, how_far, is_change, is_step, is_walk, lines_of, many_walks,
    relation, steps, walk,
)


def square():
    return Sheet([["a", "b"], ["c", "d"]], [("a", "c"), ("a", "d"), ("b", "c"), ("b", "d")])


def ladder():
    """Three levels, all of which hang together, with steps up and down from the middle."""
    return Sheet([["a", "b"], ["c", "d", "e"], ["f", "g"]],
                 [("a", "c"), ("b", "d"), ("b", "e"), ("c", "f"), ("d", "g"), ("e", "g")])


def stairs(levels):
    """Lines from each node to the one above it and to the next one there."""
    return [(names[at], more[at + by]) for names, more in zip(levels, levels[1:])
            for at in range(len(names)) for by in (0, 1) if at + by < len(names)]


def great_sheets():
    """Sheets at the limits: full gaps, paths, stairs, and stairs with a line that twists them."""
    levels = grid(12, 18)
    narrow, flat = [names[:9] for names in levels], levels[:6]
    paths = [line for names, more in zip(levels, levels[1:]) for line in zip(names, more)]
    return [full_sheet(), Sheet(levels, paths), Sheet(narrow, stairs(narrow)),
            Sheet(narrow, stairs(narrow) + [(narrow[0][8], narrow[1][0])]),
            Sheet(flat, stairs(flat) + [(flat[0][17], flat[1][0])])]


class StepTests(Case):
    def test_ordinary(self):
        self.assert_same(steps(square(), ("a", "b")), [("c", "d"), ("d", "c")])
        self.assert_same(steps(ladder(), ("c", "d")), [("a", "b"), ("f", "g")])
        self.assert_same(steps(ladder(), ("d", "c")), [("b", "a"), ("g", "f")])
        self.assert_same(steps(ladder(), ("g", "f")), [("d", "c"), ("e", "c")])

    def test_never_to_one_node(self):
        self.assert_same(steps(ladder(), ("d", "e")), [])
        self.assert_same(steps(Sheet([["a", "b"], ["c"]], [("a", "c"), ("b", "c")]), ("b", "a")), [])

    def test_never_one_up_and_one_down(self):
        sheet = Sheet([["a"], ["b", "c"], ["d"]], [("a", "b"), ("c", "d")])
        self.assert_same(steps(sheet, ("b", "c")), [])

    def test_without_lines(self):
        self.assert_same(steps(Sheet([["b", "a"]]), ("b", "a")), [])
        self.assert_same(steps(Sheet([["b", "a"], ["c", "d"]]), ("b", "a")), [])

    def test_against_all_pairs(self):
        for sheet in samples():
            near = near_pairs(sheet)
            for pair in near:
                self.assert_same(steps(sheet, pair), sorted(near[pair]))
                for goal in near:
                    self.assertIs(is_step(sheet, pair, goal), goal in near[pair])

    def test_of_a_great_sheet(self):
        near = near_pairs(full_sheet().cut(0, 1))
        for pair in near:
            self.assertEqual(steps(full_sheet(), pair), sorted(near[pair]))

    def test_by_name(self):
        self.assert_same(steps(pair=("c", "d"), sheet=ladder()), [("a", "b"), ("f", "g")])
        self.assert_same(is_step(goal=("a", "b"), start=("c", "d"), sheet=ladder()), True)


class WalkTests(Case):
    def test_ordinary(self):
        self.assert_same(walk(ladder(), ("a", "b"), ("g", "f")), None)
        self.assert_same(walk(ladder(), ("a", "b"), ("c", "e")), [("a", "b"), ("c", "e")])
        self.assert_same(walk(ladder(), ("c", "d"), ("c", "d")), [("c", "d")])
        self.assert_same(how_far(ladder(), ("c", "d"), ("c", "d")), 0)
        self.assert_same(how_far(ladder(), ("a", "b"), ("f", "g")), 2)
        self.assert_same(how_far(ladder(), ("a", "b"), ("g", "f")), None)

    def test_against_rounds(self):
        for sheet in samples():
            for start in pairs_of(sheet):
                far = distances(sheet, start)
                for goal in pairs_of(sheet):
                    found = walk(sheet, start, goal)
                    self.assert_same(how_far(sheet, start, goal), far.get(goal))
                    if goal not in far:
                        self.assertIsNone(found)
                    else:
                        self.assertTrue(is_walk_plainly(sheet, found))
                        self.assert_same([found[0], found[-1], len(found)], [start, goal, far[goal] + 1])

    def test_kinds_of_what_is_told(self):
        found = walk(square(), ("a", "b"), ("b", "a"))
        self.assertEqual([type(found)] + [type(pair) for pair in found], [list, tuple, tuple, tuple])

    def test_of_great_sheets(self):
        for sheet in great_sheets():
            for start in sheet.pairs()[::701]:
                for goal in class_of(sheet, start)[::97]:
                    found = walk(sheet, start, goal)
                    self.assertTrue(is_walk(sheet, start, goal, found))
                    self.assertEqual(how_far(sheet, start, goal), len(found) - 1)
                    self.assertLessEqual(len(found), 2000)

    def test_by_name(self):
        self.assert_same(walk(goal=("c", "e"), start=("a", "b"), sheet=ladder()), [("a", "b"), ("c", "e")])
        self.assert_same(how_far(goal=("f", "g"), start=("a", "b"), sheet=ladder()), 2)
        self.assert_same(is_walk(value=[("a", "b")], goal=("a", "b"), start=("a", "b"), sheet=ladder()), True)


class IsWalkTests(Case):
    def test_ordinary(self):
        way = [("a", "b"), ("c", "d"), ("f", "g"), ("c", "e"), ("f", "g")]
        self.assert_same(is_walk(ladder(), ("a", "b"), ("f", "g"), way), True)
        self.assert_same(is_walk(ladder(), ("a", "b"), ("f", "g"), tuple(way)), True)
        self.assert_same(is_walk(ladder(), ("a", "b"), ("f", "g"), way[:3]), True)
        self.assert_same(is_walk(ladder(), ("f", "g"), ("a", "b"), way[2::-1]), True)
        self.assert_same(is_walk(ladder(), ("b", "a"), ("b", "a"), (("b", "a"),)), True)

    def test_other_ends(self):
        way = [("a", "b"), ("c", "d"), ("f", "g")]
        for start in pairs_of(ladder()):
            for goal in pairs_of(ladder()):
                self.assert_same(is_walk(ladder(), start, goal, way), (start, goal) == (way[0], way[-1]))

    def test_spoilt_in_one_place(self):
        way = [("a", "b"), ("c", "d"), ("f", "g"), ("c", "e"), ("a", "b")]
        wrong = odd_pairs() + [("b", "a"), ("g", "f"), ("d", "c"), ["c", "d"], ["a", "b"], [["f", "g"]]]
        for position in range(len(way)):
            for value in wrong:
                spoilt = way[:position] + [value] + way[position + 1:]
                self.assert_same(is_walk(ladder(), ("a", "b"), ("a", "b"), spoilt), False)
            self.assert_same(is_walk(ladder(), ("a", "b"), ("a", "b"), way[:position] + way[position + 1:]), False)

    def test_no_list(self):
        walks = [[("a", "b")], (("a", "b"),)]
        others = [[], {("a", "b"): True}, ("a", "b"), "ab", {0: ("a", "b")}, deep(40), ladder()]
        for value in [value for value in odd_pairs() if value not in walks] + others:
            self.assert_same(is_walk(ladder(), ("a", "b"), ("a", "b"), value), False)
            self.assert_same(is_change(ladder(), value), False)

    def test_nothing_is_changed(self):
        way = [("a", "b"), ("c", "d"), ("f", "g")]
        held = copy.deepcopy(way)
        is_walk(ladder(), ("a", "b"), ("f", "g"), way)
        lines_of(ladder(), way)
        self.assert_same(way, held)


class ChangeTests(Case):
    def test_ordinary(self):
        self.assert_same(len(change(square())), 3)
        self.assert_same(change(square() - ("b", "d")), None)
        self.assert_same(change(ladder()), None)
        self.assert_same(change_from(square(), ("d", "c"))[::2], [("d", "c"), ("c", "d")])

    def test_against_rounds(self):
        some = 0
        for sheet in samples(120):
            far = {}
            for start in pairs_of(sheet):
                far[start] = distances(sheet, start).get(start[::-1])
                found = change_from(sheet, start)
                if far[start] is None:
                    self.assertIsNone(found)
                else:
                    self.assert_same([found[0], found[-1], len(found)], [start, start[::-1], far[start] + 1])
                    self.assertTrue(is_walk_plainly(sheet, found) and is_change(sheet, found))
            least = least_turning(sheet)
            found = change(sheet)
            if least is None:
                self.assertIsNone(found)
            else:
                some += 1
                self.assertEqual(len(found), least + 1)
                self.assertTrue(is_walk_plainly(sheet, found) and found[-1] == found[0][::-1])
        self.assertGreater(some, 10)

    def test_longer_ones(self):
        lengths = set()
        for seed in range(40):
            sheet = grown_sheet(seed, 5, 4)
            found = change(sheet)
            lengths.add(len(found))
            self.assertEqual(len(found), least_turning(sheet) + 1)
            self.assertTrue(is_walk_plainly(sheet, found) and found[-1] == found[0][::-1])
        self.assertGreaterEqual(lengths, {5, 7, 9})

    def test_of_great_sheets(self):
        lengths = []
        for sheet in great_sheets():
            found = change(sheet)
            lengths.append(None if found is None else len(found))
            if found is not None:
                self.assertTrue(is_change(sheet, found))
                self.assertEqual(len(change_from(sheet, found[1])), len(found))
        self.assertEqual(lengths, [3, None, None, 11, 19])

    def test_is_change(self):
        self.assert_same(is_change(square(), [("a", "b"), ("c", "d"), ("b", "a")]), True)
        self.assert_same(is_change(square(), (("c", "d"), ("a", "b"), ("d", "c"))), True)
        self.assert_same(is_change(square(), [("a", "b")]), False)
        self.assert_same(is_change(square(), [("a", "b"), ("c", "d"), ("a", "b")]), False)
        self.assert_same(is_change(square(), [("a", "b"), ("c", "d"), ("b", "a"), ("d", "c"), ("a", "b")]), False)
        self.assert_same(is_change(square(), [("a", "b"), ("b", "a")]), False)
        self.assert_same(is_change(square() - ("b", "d"), [("a", "b"), ("c", "d"), ("b", "a")]), False)

    def test_spoilt_in_one_place(self):
        way = change(square())
        for position in range(3):
            for value in odd_pairs() + [list(way[position]), way[position][::-1], "ab"]:
                if (position, value) != (1, way[1][::-1]):
                    self.assert_same(is_change(square(), way[:position] + [value] + way[position + 1:]), False)

    def test_without_pairs(self):
        for sheet in (Sheet([[]]), Sheet([["a"]]), Sheet([["a"], ["b"]], [("a", "b")]), Sheet([["b", "a"]])):
            self.assert_same([change(sheet), is_change(sheet, [])], [None, False])

    def test_by_name(self):
        self.assert_same(len(change(sheet=square())), 3)
        self.assert_same(len(change_from(pair=("a", "b"), sheet=square())), 3)
        self.assert_same(is_change(value=[("a", "b")], sheet=square()), False)


class ClassTests(Case):
    def test_ordinary(self):
        self.assert_same(class_of(square() - ("b", "d"), ("a", "b")), [("a", "b"), ("d", "c")])
        self.assert_same(class_of(ladder(), ("e", "d")), [("e", "d")])
        self.assert_same(class_of(pair=("f", "g"), sheet=ladder()), [("a", "b"), ("c", "d"), ("c", "e"), ("f", "g")])
        self.assert_same(classes(ladder()), [
            [("a", "b"), ("c", "d"), ("c", "e"), ("f", "g")], [("b", "a"), ("d", "c"), ("e", "c"), ("g", "f")],
            [("d", "e")], [("e", "d")]])

    def test_relation(self):
        self.assert_same(relation(square(), ("a", "b"), ("c", "d")), "both")
        self.assert_same(relation(square(), ("a", "b"), ("a", "b")), "both")
        self.assert_same(relation(ladder(), ("a", "b"), ("f", "g")), "alike")
        self.assert_same(relation(ladder(), ("a", "b"), ("a", "b")), "alike")
        self.assert_same(relation(ladder(), ("a", "b"), ("g", "f")), "turned")
        self.assert_same(relation(ladder(), ("a", "b"), ("b", "a")), "turned")
        self.assert_same(relation(other=("d", "e"), one=("a", "b"), sheet=ladder()), "free")

    def test_against_rounds(self):
        words = {(True, True): "both", (True, False): "alike", (False, True): "turned", (False, False): "free"}
        seen = set()
        for sheet in samples():
            whole = []
            for pair in pairs_of(sheet):
                near = sorted(distances(sheet, pair))
                self.assert_same(class_of(sheet, pair), near)
                if near not in whole:
                    whole.append(near)
                for other in pairs_of(sheet):
                    word = words[other in near, other[::-1] in near]
                    seen.add(word)
                    self.assert_same(relation(sheet, pair, other), word)
            self.assert_same(classes(sheet), sorted(whole))
        self.assertEqual(len(seen), 4)

    def test_of_great_sheets(self):
        for sheet in great_sheets():
            told = classes(sheet=sheet)
            self.assertEqual(sorted(pair for members in told for pair in members), sheet.pairs())
            self.assertEqual(told, sorted(sorted(members) for members in told))
            for members in told[::200]:
                self.assertEqual(class_of(sheet, members[-1]), members)

    def test_told_lists_are_new(self):
        sheet = ladder()
        for told in (steps(sheet, ("c", "d")), class_of(sheet, ("c", "d")), classes(sheet), classes(sheet)[0],
                     walk(sheet, ("a", "b"), ("f", "g")), lines_of(sheet, [("a", "b"), ("c", "d")])):
            held = copy.deepcopy(told)
            told.clear()
            self.assertNotEqual(told, held)
        self.assertEqual(len(classes(sheet)), 4)
        self.assertEqual(steps(sheet, ("c", "d")), [("a", "b"), ("f", "g")])


class LinesOfTests(Case):
    def test_ordinary(self):
        way = [("f", "g"), ("c", "d"), ("a", "b"), ("c", "d"), ("a", "b"), ("c", "e")]
        wanted = [("a", "c"), ("b", "d"), ("b", "e"), ("c", "f"), ("d", "g")]
        self.assert_same(lines_of(ladder(), way), wanted)
        self.assert_same(lines_of(ladder(), tuple(way)), wanted)
        self.assert_same(lines_of(way=way[:2], sheet=ladder()), [("c", "f"), ("d", "g")])
        self.assert_same(lines_of(ladder(), [("a", "b")]), [])

    def test_names_that_meet(self):
        sheet = Sheet([["a", "b"], ["c", "d"]], [("a", "c"), ("a", "d"), ("b", "c"), ("b", "d")])
        self.assert_same(lines_of(sheet, [("c", "d"), ("b", "a")]), [("a", "d"), ("b", "c")])

    def test_no_walk(self):
        for value in [None, 7, "", "ab", {}, {("a", "b"): 1}, [], (), ladder(), True, b"ab"]:
            self.assert_error(InvalidWalk, {"position": None}, lines_of, ladder(), value)

    def test_the_first_wrong_one(self):
        way = [("a", "b"), ("c", "d"), ("f", "g")]
        for position in range(3):
            for value in odd_pairs() + [("b", "a"), ("d", "e"), list(way[position])]:
                if (position, value) not in [(0, ("b", "a")), (0, ("d", "e"))]:
                    spoilt = way[:position] + [value] + way[position + 1:] + [None]
                    self.assert_error(InvalidWalk, {"position": position}, lines_of, ladder(), spoilt)
        self.assert_error(InvalidWalk, {"position": 1}, lines_of, ladder(), [("b", "a")] + way[1:])
        self.assert_error(InvalidWalk, {"position": 1}, lines_of, ladder(), (("a", "b"), ("f", "g")))
        self.assert_error(InvalidWalk, {"position": 0}, lines_of, ladder(), ("a", "b"))


class ManyWalksTests(Case):
    def test_ordinary(self):
        self.assert_same(many_walks(ladder(), ("a", "b"), ("a", "b"), 0), 1)
        self.assert_same(many_walks(ladder(), ("a", "b"), ("b", "a"), 0), 0)
        self.assert_same(many_walks(ladder(), ("a", "b"), ("c", "e"), 1), 1)
        self.assert_same(many_walks(ladder(), ("a", "b"), ("f", "g"), 2), 2)
        self.assert_same(many_walks(ladder(), ("a", "b"), ("a", "b"), 2), 2)
        self.assert_same(many_walks(ladder(), ("d", "e"), ("d", "e"), 2), 0)
        self.assert_same(many_walks(number=2, goal=("f", "g"), start=("a", "b"), sheet=ladder()), 2)

    def test_great_numbers(self):
        self.assert_same(many_walks(square(), ("a", "b"), ("b", "a"), 40), 2 ** 39)
        self.assert_same(many_walks(square(), ("a", "b"), ("b", "a"), 39), 0)
        levels = grid(2, 14)
        full = Sheet(levels, [(low, high) for low in levels[0] for high in levels[1]])
        wanted = 182 ** 39
        self.assert_same(many_walks(full, full.pairs()[0], full.pairs()[7], 40), wanted)

    def test_against_all_walks(self):
        for sheet in samples(20):
            for start in pairs_of(sheet)[::2]:
                for number in range(5):
                    told = list(all_walks(sheet, start, number))
                    for goal in pairs_of(sheet):
                        self.assert_same(many_walks(sheet, start, goal, number),
                                         len([way for way in told if way[-1] == goal]))

    def test_number(self):
        for value in odd_counts():
            self.assert_error(InvalidNumber, {"value": value}, many_walks, ladder(), ("a", "b"), ("a", "b"), value)
        for value in (41, 10 ** 29):
            self.assert_error(TooMany, {"what": "steps", "limit": 40},
                              many_walks, ladder(), ("a", "b"), ("a", "b"), value)


class AllWalksTests(Case):
    def test_ordinary(self):
        self.assert_same(list(all_walks(ladder(), ("a", "b"), 0)), [[("a", "b")]])
        self.assert_same(list(all_walks(ladder(), ("a", "b"), 1)), [[("a", "b"), ("c", "d")], [("a", "b"), ("c", "e")]])
        self.assert_same(list(all_walks(ladder(), ("d", "e"), 0)), [[("d", "e")]])
        self.assert_same(list(all_walks(ladder(), ("d", "e"), 1)), [])
        self.assert_same(list(all_walks(number=3, start=("d", "e"), sheet=ladder())), [])

    def test_all_of_them_sorted(self):
        for sheet in samples(20):
            near = near_pairs(sheet)
            for start in pairs_of(sheet)[::3]:
                wanted = [[start]]
                for number in range(5):
                    self.assert_same(list(all_walks(sheet, start, number)), wanted)
                    wanted = [way + [pair] for way in wanted for pair in sorted(near[way[-1]])]

    def test_two_at_once(self):
        one, other = all_walks(square(), ("a", "b"), 3), all_walks(square(), ("a", "b"), 3)
        first = next(one)
        self.assert_same(next(other), first)
        second = next(one)
        self.assert_same([next(other), next(other)], [second, next(one)])
        self.assertLess(first, second)

    def test_each_is_new(self):
        whole = list(all_walks(square(), ("a", "b"), 3))
        told = []
        for way in all_walks(square(), ("a", "b"), 3):
            told.append(list(way))
            way.clear()
        self.assert_same(told, whole)
        self.assertEqual(len({id(way) for way in whole}), len(whole))

    def test_asked_for_one_by_one(self):
        for sheet in (square(), full_sheet()):
            found = all_walks(sheet, sheet.pairs()[0], 40)
            ahead = next(found)
            for _ in range(50):
                way = next(found)
                self.assertEqual(len(way), 41)
                self.assertLess(ahead, way)
                self.assertTrue(is_walk(sheet, way[0], way[-1], way))
                ahead = way

    def test_it_is_a_generator(self):
        self.assertEqual(type(all_walks(square(), ("a", "b"), 3)).__name__, "generator")


class ErrorTests(Case):
    def test_pairs(self):
        sheet = ladder()
        good = ("a", "b")
        for value in odd_pairs():
            wrong = {"value": value}
            for action in (steps, class_of, change_from):
                self.assert_error(InvalidPair, wrong, action, sheet, value)
                self.assert_error(InvalidPair, wrong, action, pair=value, sheet=sheet)
            for action in (is_step, walk, how_far, relation):
                self.assert_error(InvalidPair, wrong, action, sheet, value, good)
                self.assert_error(InvalidPair, wrong, action, sheet, good, value)
                self.assert_error(InvalidPair, wrong, action, sheet, value, ("b", "nope"))
            self.assert_error(InvalidPair, wrong, is_walk, sheet, value, None, None)
            self.assert_error(InvalidPair, wrong, is_walk, sheet, good, value, None)
            self.assert_error(InvalidPair, wrong, many_walks, sheet, value, None, None)
            self.assert_error(InvalidPair, wrong, many_walks, sheet, good, value, None)
            self.assert_error(InvalidPair, wrong, many_walks, sheet, good, value, 41)
            self.assert_error(InvalidPair, wrong, lambda: next(all_walks(sheet, value, None)))
            self.assert_error(InvalidPair, wrong, lambda: next(all_walks(sheet, value, 41)))

    def test_numbers_of_all_walks(self):
        for value in odd_counts():
            self.assert_error(InvalidNumber, {"value": value}, lambda: list(all_walks(ladder(), ("a", "b"), value)))
        for value in (41, 10 ** 29):
            self.assert_error(TooMany, {"what": "steps", "limit": 40},
                              lambda: list(all_walks(ladder(), ("d", "e"), value)))

    def test_sheets_with_one_node(self):
        for value in odd_values() + [("a", "a"), ("a", "b")]:
            self.assert_error(InvalidPair, {"value": value}, steps, Sheet([["a"]]), value)


if __name__ == "__main__":
    unittest.main()
