"""Papers of claims: made for true ones, and judged whatever they are."""

import copy
import unittest

from checking import Case, odd_pairs, odd_values
from claiming import claim_of, claims_about, few, large, plenty
from plainly import clean_choices, every_choice, samples
import reading
from spoiling import spoilt, told_as_tuples
from striking import many_lines, square, wide
from uplines.claims import KINDS, is_paper, is_true, paper_for
from uplines.drawings import Drawing
from uplines.sheets import Sheet
from uplines.texts import read_sheet
from uplines.told import widened

KIND_OF_PAPER = {
    "clean": list, "crossed": list, "may be": list, "never be": list, "kept": list, "never kept": list, "count": list,
    "struck": tuple, "helps": list, "refused": list,
}


def fresh(paper):
    """Whether the paper is of plain kinds alone, as the package returns them."""
    if isinstance(paper, dict):
        return list(paper) == sorted(paper) and all(fresh(part) for part in paper.values())
    if isinstance(paper, (list, tuple)):
        return all(fresh(part) for part in paper)
    return type(paper) in (str, int)


class PaperTests(Case):
    def test_ordinary(self):
        papers = {claim["claim"]: paper_for(claim) for claim in few()}
        self.assert_same(papers["may be"], [["b", "a"], ["d", "c"]])
        self.assert_same(papers["kept"], [["b", "a"], ["d", "c"]])
        self.assert_same(papers["count"], [{("a", "b"): 1, ("b", "a"): 1}, {("c", "d"): 1, ("d", "c"): 1}])
        self.assert_same(papers["struck"][0], "strike")
        self.assert_same([papers["crossed"][0][::-1] == papers["crossed"][-1], len(papers["refused"])], [True, 3])

    def test_all_are_papers(self):
        for claim in few() + large():
            sheet = read_sheet(claim["sheet"])
            paper = paper_for(claim=claim)
            self.assertEqual(type(paper), KIND_OF_PAPER[claim["claim"]])
            self.assertTrue(fresh(paper))
            self.assertTrue(reading.is_paper(sheet, claim, paper))
            self.assert_same([is_paper(claim, paper), is_paper(value=paper, claim=claim)], [True, True])
            self.assert_same(is_paper(told_as_tuples(claim), paper), True)

    def test_plenty(self):
        seen = dict.fromkeys(KINDS, 0)
        for claim, wanted in plenty():
            if wanted:
                seen[claim["claim"]] += 1
                paper = paper_for(claim)
                self.assertTrue(fresh(paper) and reading.is_paper(read_sheet(claim["sheet"]), claim, paper))
                self.assert_same(is_paper(claim, paper), True)
        self.assertGreater(min(seen.values()), 5)

    def test_lists_may_be_tuples(self):
        for claim in few():
            if claim["claim"] != "struck":
                self.assert_same(is_paper(claim, told_as_tuples(paper_for(claim))), True)

    def test_papers_of_other_claims(self):
        """False for each paper of a claim that is not true, also of one of the same kind or about the same sheet."""
        for sheet in list(samples(16))[::3]:
            told = claims_about(sheet)
            papers = [paper_for(claim) for claim, wanted in told if wanted]
            for claim, wanted in told[::2]:
                for paper in papers[::3]:
                    found = is_paper(claim, paper)
                    self.assert_same(found, reading.is_paper(sheet, claim, paper))
                    self.assertTrue(wanted or not found)

    def test_claims_that_are_not_true_have_no_paper(self):
        lower = read_sheet(few()[0]["sheet"])
        for claim in [claim_of("clean", square()), claim_of("crossed", lower), claim_of("count", lower, number=3),
                      claim_of("struck", wide(), number=2), claim_of("helps", wide(), lines=[("a", "c")]),
                      claim_of("refused", Sheet(lower.levels()), line=("b", "c")),
                      claim_of("may be", lower, orders={0: ["a", "b"], 1: ["d", "c"]}),
                      claim_of("never be", lower, orders={0: ["a", "b"]}), claim_of("never kept", lower, pairs=[]),
                      claim_of("kept", lower, pairs=[("a", "b"), ("d", "c")])]:
            self.assert_same(is_true(claim), False)
            for other in few() + large():
                self.assert_same(is_paper(claim, paper_for(other)), False)
            for orders in every_choice(read_sheet(claim["sheet"])):
                self.assert_same(is_paper(claim, orders), False)
            for value in odd_values():
                self.assert_same(is_paper(claim, value), False)

    def test_spoilt_in_one_place(self):
        seen = {kind: [] for kind in KINDS}
        for claim in few():
            sheet = read_sheet(claim["sheet"])
            paper = paper_for(claim)
            held = copy.deepcopy(paper)
            for value in spoilt(paper, [None, True, 0, [], ("zz", "zz")]):
                found = is_paper(claim, value)
                seen[claim["claim"]].append(found)
                self.assert_same(found, reading.is_paper(sheet, claim, value))
            self.assert_same(paper, held)
        for kind in KINDS:
            self.assertGreater(seen[kind].count(False), 20, kind)

    def test_odd_values(self):
        for claim in few():
            for value in odd_values() + odd_pairs() + [Drawing.plain(read_sheet(claim["sheet"]))]:
                self.assert_same(is_paper(claim, value), False)
                self.assert_same(is_paper(claim, [value, value]), False)

    def test_new_each_time(self):
        for claim in few():
            paper = paper_for(claim)
            if isinstance(paper, list):
                paper.clear()
            else:
                paper[1].clear(), paper[2].clear()
            self.assert_same(is_paper(claim, paper_for(claim)), True)


class SumTests(Case):
    def test_against_all_choices(self):
        for sheet in samples(40):
            sums = reading.sums_plainly(sheet)
            claim = claim_of("count", sheet, number=len(clean_choices(sheet)))
            self.assert_same(paper_for(claim), [{order: told[order] for order in sorted(told)} for told in sums])

    def test_orders_of_which_there_are_none(self):
        sheet = Sheet([["a", "b"], ["c", "d"], ["e"]], square().lines())
        claim = claim_of("count", sheet, number=0)
        self.assert_same(paper_for(claim), [{("a", "b"): 1, ("b", "a"): 1}, {}, {}])
        one = {("a", "b"): 1, ("b", "a"): 1}
        for value, wanted in [([one, {}, {}], True), ((one, {}, {}), True), ([one, {("c", "d"): 0}, {}], False),
                              ([one, {}, {("e",): 0}], False), ([one, {}], False), ([one, {}, {}, {}], False),
                              ([one, [], []], False), ([one, None, {}], False), (one, False)]:
            self.assert_same(is_paper(claim, value), wanted)

    def test_numbers(self):
        """True is no number, and numbers that are equal to one are none if they are of another kind."""
        sheet = Sheet([["a", "b"], ["c"]])
        claim = claim_of("count", sheet, number=2)
        good = [{("a", "b"): 1, ("b", "a"): 1}, {("c",): 2}]
        self.assert_same([paper_for(claim), is_paper(claim, good)], [good, True])
        for number in (True, False, None, 0, 2, "1", [1], -1):
            self.assert_same(is_paper(claim, [{("a", "b"): number, ("b", "a"): 1}, {("c",): 2}]), False)
        self.assert_same(is_paper(claim, [{"ab": 1, "ba": 1}, {"c": 2}]), False)
        self.assert_same(is_paper(claim, [{("b", "a"): 1, ("a", "b"): 1}, {("c",): 2}]), True)

    def test_levels_without_nodes(self):
        claim = claim_of("count", Sheet([[], ["a", "b"], []]), number=2)
        self.assert_same(paper_for(claim), [{(): 1}, {("a", "b"): 1, ("b", "a"): 1}, {(): 2}])


class LargeTests(Case):
    def test_the_sheet_with_the_new_line_need_not_be_small(self):
        claim = claim_of("refused", many_lines(12), line=("n00x04", "n01x04"))
        paper = paper_for(claim)
        self.assertTrue(reading.is_change(many_lines(12) + ("n00x04", "n01x04"), paper))
        self.assert_same(is_paper(claim, paper), True)

    def test_bars_are_of_the_widened_sheet(self):
        claim = few()[3]
        sheet = read_sheet(claim["sheet"])
        bar = paper_for(claim)
        self.assertTrue(reading.is_change(widened(sheet, claim["orders"]), bar))
        self.assertFalse(reading.is_change(sheet, bar))


if __name__ == "__main__":
    unittest.main()
