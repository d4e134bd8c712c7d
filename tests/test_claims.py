"""Claims: what is one, and which are true."""

import copy
import unittest

from checking import Case, deep, grid, odd_counts, odd_lines, odd_pair_lists, odd_tellings, odd_values
from claiming import claim_of, few, large, plenty
from plainly import clean_choices, plain_text
from small_bounds import beyond, within
from spoiling import spoilt, told_as_tuples
from striking import apart, many_clean_lines, square
from uplines.claims import KINDS, is_claim, is_paper, is_true, paper_for
from uplines.errors import InvalidClaim, InvalidText, NotTrue
from uplines.sheets import Sheet
from uplines.texts import read_sheet

PARTS = {
    "may be": "orders", "never be": "orders", "kept": "pairs", "never kept": "pairs", "count": "number",
    "struck": "number", "helps": "lines", "refused": "line",
}


def four():
    """In which the errors' odd values are no lines, pairs and orders."""
    return Sheet([["a", "b"], ["c", "d", "e"]], [("a", "d")])


def is_claim_plainly(value):
    """Whether a value is a claim, by its parts one after the other."""
    if not isinstance(value, dict) or not isinstance(value.get("claim"), str) or value["claim"] not in KINDS:
        return False
    part = PARTS.get(value["claim"])
    if sorted(map(repr, value)) != sorted(map(repr, ["claim", "sheet"] + ([part] if part else []))):
        return False
    try:
        sheet = read_sheet(value["sheet"])
    except InvalidText:
        return False
    return sheet.is_small() and (part is None or fits(sheet, value["claim"], value[part]))


def fits(sheet, kind, value):
    levels = sheet.levels()
    if PARTS[kind] == "orders":
        return isinstance(value, dict) and all(
            type(level) is int and 0 <= level < len(levels) and isinstance(order, (list, tuple))
            and sorted(map(repr, order)) == sorted(map(repr, levels[level])) for level, order in value.items())
    if PARTS[kind] == "number":
        return type(value) is int and value >= 0 and (
            kind == "count" or value <= 2 and len(sheet.lines()) <= 24)
    if kind == "refused":
        return value in [(low, high) for names, more in zip(levels, levels[1:]) for low in names for high in more
                         if (low, high) not in sheet]
    known = sheet.pairs() if PARTS[kind] == "pairs" else sheet.lines()
    if not isinstance(value, (list, tuple)) or not all(part in known for part in value):
        return False
    return PARTS[kind] == "pairs" or len(set(value)) == len(value)


class KindTests(Case):
    def test_kinds(self):
        self.assert_same(KINDS, ("clean", "crossed", "may be", "never be", "kept", "never kept", "count", "struck",
                                 "helps", "refused"))
        self.assertEqual([claim["claim"] for claim in few()], list(KINDS))


class IsClaimTests(Case):
    def test_ordinary(self):
        for claim in few() + large():
            self.assert_same([is_claim(claim), is_claim(value=claim), is_claim_plainly(claim)], [True] * 3)
            self.assert_same(is_claim({key: claim[key] for key in reversed(list(claim))}), True)

    def test_lists_may_be_tuples(self):
        for claim in few():
            self.assert_same(is_claim(told_as_tuples(claim)), True)

    def test_odd_values(self):
        for value in odd_values() + [[], "clean", plain_text(square()), square(), ("claim", "clean")]:
            self.assert_same(is_claim(value), False)
            for claim in few():
                for key in claim:
                    changed = {**claim, key: value}
                    self.assert_same(is_claim(changed), is_claim_plainly(changed))

    def test_spoilt_in_one_place(self):
        seen = []
        for claim in few():
            for value in spoilt(claim):
                seen.append(is_claim_plainly(value))
                self.assert_same(is_claim(value), seen[-1])
            for key in [*PARTS.values(), "number", "value", None, 0]:
                for value in (None, 0, [], {}, ()):
                    if key not in claim:
                        self.assert_same(is_claim({**claim, key: value}), False)
        self.assertGreater(min(seen.count(True), seen.count(False)), 20)

    def test_words(self):
        for word in odd_values() + ["Clean", "clean ", "maybe", "may  be", "", ["clean"], ("clean",), {"clean": 1}, 0]:
            self.assert_same(is_claim({"claim": word, "sheet": plain_text(square())}), False)

    def test_keys_of_other_kinds(self):
        for claim in few():
            for other in few():
                changed = {**claim, "claim": other["claim"]}
                self.assert_same(is_claim(changed), is_claim_plainly(changed))

    def test_orders(self):
        for kind in ("may be", "never be"):
            for value in odd_tellings():
                self.assert_same(is_claim(claim_of(kind, four(), orders=value)), False)
            self.assert_same(is_claim(claim_of(kind, four(), orders={})), True)
            self.assert_same(is_claim(claim_of(kind, Sheet([[], ["a"]]), orders={0: [], 1: ("a",)})), True)

    def test_pairs(self):
        told = Sheet([["a", "b"], ["c", "d"]])
        for kind in ("kept", "never kept"):
            for _, value in odd_pair_lists():
                self.assert_same(is_claim(claim_of(kind, told, pairs=value)), False)
            for value in ([], (), [("a", "b"), ("a", "b")], (("d", "c"), ("c", "d"))):
                self.assert_same(is_claim(claim_of(kind, told, pairs=value)), True)

    def test_numbers(self):
        for value in odd_counts():
            for kind in ("count", "struck"):
                self.assert_same(is_claim(claim_of(kind, four(), number=value)), False)
        for value in (0, 1, 2):
            self.assert_same(is_claim(claim_of("struck", four(), number=value)), True)
        for value in (3, 4, 24, 10 ** 29):
            self.assert_same(is_claim(claim_of("struck", four(), number=value)), False)
            self.assert_same(is_claim(claim_of("count", four(), number=value)), True)

    def test_lines(self):
        for value in odd_lines() + [("a", "c"), ("d", "a"), "a"]:
            self.assert_same(is_claim(claim_of("helps", four(), lines=[value])), False)
            self.assert_same(is_claim(claim_of("helps", four(), lines=(("a", "d"), value))), False)
        for value in odd_values():
            self.assert_same(is_claim(claim_of("helps", four(), lines=value)), value in ([], ()))
        self.assert_same(is_claim(claim_of("helps", four(), lines=[("a", "d"), ("a", "d")])), False)
        self.assert_same([is_claim(claim_of("helps", four(), lines=[("a", "d")])),
                          is_claim(claim_of("helps", four(), lines=()))], [True, True])
        for value in odd_lines() + [("a", "d"), ("c", "a"), ["a", "c"]]:
            self.assert_same(is_claim(claim_of("refused", four(), line=value)), False)
        self.assert_same(is_claim(claim_of("refused", four(), line=("b", "e"))), True)

    def test_small_sheets(self):
        for told in within():
            self.assert_same(is_claim(claim_of("clean", told)), True)
            self.assert_same(is_claim(claim_of("struck", told, number=0)), len(told.lines()) <= 24)
        for told, _ in beyond():
            for claim in (claim_of("clean", told), claim_of("crossed", told), claim_of("count", told, number=0)):
                self.assert_same(is_claim(claim), False)

    def test_24_lines_and_25(self):
        levels = grid(6, 5)
        lines = [(low, high) for names, more in zip(levels, levels[1:]) for low, high in zip(names, more)]
        for many, wanted in [(24, True), (25, False)]:
            told = Sheet(levels, lines[:many])
            self.assert_same(is_claim(claim_of("struck", told, number=2)), wanted)
            self.assert_same(is_claim(claim_of("helps", told, lines=lines[:many])), True)
        self.assert_same(is_claim(claim_of("struck", many_clean_lines(24), number=0)), False)

    def test_the_sheet_with_the_new_line_need_not_be_small(self):
        levels = grid(2, 5)
        lines = [(low, high) for low in levels[0] for high in levels[1]]
        told = Sheet(levels, lines[:12])
        self.assert_same(is_claim(claim_of("refused", told, line=lines[12])), True)
        self.assert_same(is_claim(claim_of("refused", Sheet(levels, lines[:13]), line=lines[13])), False)

    def test_texts_spoilt(self):
        for text in ("", "level a", "level a\n\n", "level b a\n", "level a\nlevel b\nline b a\n"):
            self.assert_same(is_claim({"claim": "clean", "sheet": text}), False)


class TrueTests(Case):
    def test_ordinary(self):
        for claim in few() + large():
            self.assert_same([is_true(claim), is_true(claim=told_as_tuples(claim))], [True, True])

    def test_against_all_choices(self):
        seen = {kind: [] for kind in KINDS}
        for claim, wanted in plenty():
            seen[claim["claim"]].append(wanted)
            self.assert_same(is_true(claim), wanted)
            if wanted:
                paper_for(claim)
            else:
                self.assert_error(NotTrue, {}, paper_for, claim)
        for kind in KINDS:
            self.assertGreater(min(seen[kind].count(True), seen[kind].count(False)), 5, kind)

    def test_number_of_clean_drawings(self):
        told = Sheet(grid(6, 5))
        self.assert_same(is_true(claim_of("count", told, number=120 ** 6)), True)
        self.assert_same(is_true(claim_of("count", told, number=120 ** 6 + 1)), False)
        crossed = Sheet([["a", "b"], ["c", "d"], ["e"]], square().lines())
        self.assert_same([is_true(claim_of("count", crossed, number=number)) for number in range(3)],
                         [True, False, False])

    def test_struck(self):
        told = apart(2)
        self.assertEqual(clean_choices(told - ("a0", "c0")), [])
        self.assert_same([is_true(claim_of("struck", told, number=number)) for number in range(3)], [True, True, False])


class ErrorTests(Case):
    def test_no_claim(self):
        spoiled = [value for claim in few() for value in spoilt(claim, [None, True, [], {}])
                   if not is_claim_plainly(value)]
        for value in odd_values() + [deep(3), "clean", KINDS] + spoiled[::5]:
            for action in (is_true, paper_for):
                self.assert_error(InvalidClaim, {"value": value}, action, value)
                self.assert_error(InvalidClaim, {"value": value}, action, claim=value)
            self.assert_error(InvalidClaim, {"value": value}, is_paper, value, None)
            self.assert_error(InvalidClaim, {"value": value}, is_paper, claim=value, value=[])

    def test_what_is_passed_stays(self):
        for claim in few():
            held = copy.deepcopy(claim)
            is_claim(claim), is_true(claim), is_paper(claim, paper_for(claim))
            self.assert_same(claim, held)


if __name__ == "__main__":
    unittest.main()
