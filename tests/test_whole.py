"""What holds over the whole program: orders or a change, told orders, told pairs, all drawings, papers."""

import itertools
import unittest

from checking import Case, full_sheet, grid
from plainly import (
    clean_choices, grown_sheet, has_pair, having, keeping, least_turning, lists_of_pairs, pairs_of, random_sheet,
    samples, sheets_of_two_levels, tellings,
)
import reading
from striking import four, many_lines, sure, three, uneven, wide
from uplines.claims import KINDS, is_paper, is_true, paper_for
from uplines.clean import first_clean, has_clean, last_clean, paper
from uplines.clean import is_paper as is_clean_paper
from uplines.counts import Gallery, drawings, how_many
from uplines.desk import Desk
from uplines.fences import bound, can_keep, fence, is_fence
from uplines.growing import Grower
from uplines.more import coming, refused
from uplines.sheets import Sheet
from uplines.struck import Strike, fewest, helps, least_lists, surely_struck, tree_against
from uplines.sure import blocks, neighbours, sure_classes, sure_ends, sure_word
from uplines.texts import drawing_text, read_drawing, read_sheet, text_of
from uplines.told import Told, bar, is_bar, may_be
from uplines.walkers import Walkers, change, is_change, walk


def plenty():
    found = [*samples(36), *list(sheets_of_two_levels())[1::37], three(), four(), sure(), uneven()]
    return found + [random_sheet(seed, 4, 3, 4) for seed in range(4)] + [grown_sheet(seed, 3, 3) for seed in range(4)]


class OrdersOrAChange(Case):
    def test_never_both(self):
        seen = []
        for sheet in plenty():
            choices = clean_choices(sheet)
            found = change(sheet)
            seen.append(has_clean(sheet))
            self.assert_same([has_clean(sheet), found is None, least_turning(sheet) is None], [bool(choices)] * 3)
            self.assertEqual(is_clean_paper(sheet, paper(sheet)), True)
            if found is not None:
                self.assertTrue(reading.is_change(sheet, found))
                self.assert_same([first_clean(sheet), last_clean(sheet), how_many(sheet)], [None, None, 0])
        self.assertGreater(min(seen.count(True), seen.count(False)), 10)

    def test_of_any_sheet(self):
        for sheet in (full_sheet(), Sheet(grid(12, 18)), Sheet([[]] * 12), many_lines(25)):
            self.assert_same(has_clean(sheet), change(sheet) is None)

    def test_upside_down_and_side_by_side(self):
        for sheet in plenty()[::3]:
            self.assert_same([has_clean(~sheet), has_clean(sheet >> Sheet([["zz1", "zz2"]]))], [has_clean(sheet)] * 2)
            beside = Sheet([[f"zz{level}"] for level in range(len(sheet))])
            self.assert_same(has_clean(sheet | beside), has_clean(sheet))
            self.assert_same(has_clean(sheet), all(has_clean(part) for part in sheet.parts()))

    def test_walkers_who_are_led_along_a_change(self):
        for sheet in plenty()[::3]:
            found = change(sheet)
            if found is not None:
                walkers = Walkers(sheet, found[0])
                for pair in found[1:]:
                    walkers += pair
                self.assert_same([walkers.have_changed(), walkers.way()], [True, found])


class ToldOrders(Case):
    def test_never_both(self):
        for sheet in plenty()[::3]:
            choices = clean_choices(sheet)
            for orders in tellings(sheet, 5):
                may = bool(having(choices, orders))
                found = bar(sheet, orders)
                self.assert_same([may_be(sheet, orders), found is None, Told(sheet, orders).may_be()], [may] * 3)
                if found is not None:
                    self.assert_same(is_bar(sheet, orders, found), True)


class ToldPairs(Case):
    def test_never_both(self):
        for sheet in plenty()[::3]:
            choices = clean_choices(sheet)
            for pairs in lists_of_pairs(sheet)[::3]:
                found = fence(sheet, pairs)
                self.assert_same([can_keep(sheet, pairs), found is None], [bool(keeping(choices, pairs))] * 2)
                if found is not None:
                    self.assert_same(is_fence(sheet, pairs, found), True)


class AllDrawings(Case):
    def test_all_of_them_are_counted(self):
        for sheet in plenty()[::2]:
            choices = clean_choices(sheet)
            self.assert_same([drawing.orders() for drawing in drawings(sheet)], choices)
            self.assert_same([how_many(sheet), Gallery(sheet).how_many()], [len(choices)] * 2)
            if any(len(names) > 1 for names in sheet.levels()):
                self.assertEqual(len(choices) % 2, 0)
                for pair in pairs_of(sheet):
                    self.assertEqual(2 * len(keeping(choices, [pair])), len(choices))

    def test_what_is_told_of_all_is_so_in_each(self):
        for sheet in plenty()[::2]:
            choices = clean_choices(sheet)
            if not choices:
                continue
            for members in sure_classes(sheet):
                for choice in choices:
                    self.assertEqual(len({has_pair(choice, pair) for pair in members}), 1)
            for one, other in neighbours(sheet):
                order = [sheet.level_of(one)]
                self.assertTrue(all(abs(choice[order[0]].index(one) - choice[order[0]].index(other)) == 1
                                    for choice in choices))
            for level in range(len(sheet)):
                for choice in choices:
                    self.assertTrue(all(node in (choice[level][0], choice[level][-1])
                                        for node in sure_ends(sheet, level)))
                    for some in blocks(sheet, level):
                        places = [choice[level].index(node) for node in some]
                        self.assertEqual(max(places) - min(places), len(some) - 1)
            self.assertEqual(bound(sheet, []), [])

    def test_alike_by_walks_is_surely_alike(self):
        for sheet in plenty()[::4]:
            if has_clean(sheet):
                for pair, other in itertools.product(pairs_of(sheet)[::2], pairs_of(sheet)):
                    if walk(sheet, pair, other) is not None:
                        self.assert_same(sure_word(sheet, pair, other), "alike")


class LinesLessAndMore(Case):
    def test_struck_lines_leave_a_clean_drawing(self):
        for sheet in [three(), four(), wide(), sure(), uneven()]:
            for some in least_lists(sheet):
                self.assert_same([has_clean(Strike(sheet, *some).rest), helps(sheet, some)], [True, True])
                for line in some:
                    self.assertIn(line, refused(Strike(sheet, *some).rest))
            self.assertEqual([tree_against(sheet, many) is None for many in range(3)],
                             [(fewest(sheet) or 4) <= many for many in range(3)])
            if surely_struck(sheet):
                for line in surely_struck(sheet):
                    self.assertTrue(all(line in some for some in least_lists(sheet)))

    def test_grown_as_far_as_lines_may_come(self):
        for sheet in plenty()[::3]:
            if has_clean(sheet) and len(sheet) > 1:
                grower = Grower(sheet.level(0))
                for level in range(1, len(sheet)):
                    grower.level()
                    for name in sheet.level(level):
                        grower.node(name)
                    grower(sheet.gap(level - 1))
                top = [line for line in coming(sheet) if line[1] in grower.top]
                self.assertEqual([line for line in itertools.product(sheet.level(len(sheet) - 2), grower.top)
                                  if grower.may(*line)], top)


class Checked(Case):
    def test_each_true_claim_has_a_paper_that_is_checked(self):
        for sheet in plenty()[::3]:
            text = text_of(sheet)
            number = how_many(sheet)
            for claim in [{"claim": "clean", "sheet": text}, {"claim": "crossed", "sheet": text},
                          {"claim": "count", "sheet": text, "number": number},
                          {"claim": "struck", "sheet": text, "number": 0},
                          {"claim": "helps", "sheet": text, "lines": sheet.lines()}]:
                self.assertIn(claim["claim"], KINDS)
                if is_true(claim):
                    found = paper_for(claim)
                    self.assertTrue(reading.is_paper(sheet, claim, found))
                    self.assert_same(is_paper(claim, found), True)
            clean, crossed = {"claim": "clean", "sheet": text}, {"claim": "crossed", "sheet": text}
            self.assertNotEqual(is_true(clean), is_true(crossed))

    def test_a_struck_tree_of_no_lines_is_a_change(self):
        for sheet in plenty()[::3]:
            claim = {"claim": "struck", "sheet": text_of(sheet), "number": 0}
            self.assert_same(is_true(claim), not has_clean(sheet))
            if is_true(claim):
                self.assert_same(is_change(sheet, paper_for(claim)[1]), True)

    def test_texts_hold_all(self):
        for sheet in plenty():
            self.assert_same(read_sheet(text_of(sheet)), sheet)
            if has_clean(sheet):
                drawing = first_clean(sheet)
                self.assert_same(read_drawing(drawing_text(drawing)), drawing)

    def test_a_desk_that_is_led_to_a_sheet(self):
        for sheet in plenty()[::2]:
            desk = Desk(Sheet([sheet.level(0)]))
            desk.do_all(*[" ".join(["level", *names]) for names in sheet.levels()[1:]],
                        *[" ".join(["line", *line]) for line in sheet.lines()])
            self.assert_same([desk.sheet, desk("many")], [sheet, str(how_many(sheet))])
            while len(desk):
                desk("undo")
            self.assert_same(desk.sheet, Sheet([sheet.level(0)]))


if __name__ == "__main__":
    unittest.main()
