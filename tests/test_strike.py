"""The class Strike: some lines of a sheet as a value."""

import unittest

from checking import Case, full_sheet, odd_lines, odd_values
from striking import few_lines, four, free, many_clean_lines, many_lines, square, three, wide
from uplines.clean import has_clean
from uplines.errors import InvalidLine, InvalidLines, OtherSheets, TooMany, UnknownLine
from uplines.sheets import Sheet
from uplines.struck import Strike, helps, least_lists, without

AC, AD, BC, BD = ("a", "c"), ("a", "d"), ("b", "c"), ("b", "d")


def sheet():
    """In which the errors' odd values are no lines, but a to d is one."""
    return Sheet([["a", "b"], ["c", "d"]], [("a", "d"), ("b", "c")])


class MadeTests(Case):
    def test_ordinary(self):
        one = Strike(square(), BD, AC)
        self.assert_same([one.lines(), len(one), one.sheet, one.does_help], [[AC, BD], 2, square(), True])
        self.assert_same(one.rest, Sheet([["a", "b"], ["c", "d"]], [AD, BC]))
        self.assert_same([Strike(square()).lines(), len(Strike(square())), Strike(square()).does_help], [[], 0, False])
        self.assert_same([Strike(square()).rest, Strike(free()).does_help], [square(), True])

    def test_rest_and_help(self):
        for told in few_lines():
            for at in range(len(told.lines())):
                some = told.lines()[at::2]
                one = Strike(told, *some)
                self.assert_same([one.rest, one.does_help], [without(told, some), helps(told, some)])
                self.assert_same(one.does_help, has_clean(one.rest))

    def test_no_lines(self):
        for value in odd_lines() + [("a", "c"), ("d", "a"), "a", [("a", "d")]]:
            self.assert_error(InvalidLines, {"position": 0}, Strike, sheet(), value)
            self.assert_error(InvalidLines, {"position": 1}, Strike, sheet(), AD, value)
            self.assert_error(InvalidLines, {"position": 2}, Strike, sheet(), AD, BC, value, None)
        self.assert_error(InvalidLines, {"position": 1}, Strike, sheet(), AD, AD)
        self.assert_error(InvalidLines, {"position": 2}, Strike, sheet(), AD, BC, AD)

    def test_great_sheets(self):
        lines = full_sheet().lines()
        one = Strike(full_sheet(), *lines)
        self.assert_same([len(one), one.does_help, one.rest.lines()], [200, True, []])

    def test_properties_are_not_set(self):
        for name in ("sheet", "rest", "does_help"):
            with self.assertRaises(AttributeError):
                setattr(Strike(square()), name, None)


class ReadTests(Case):
    def test_in(self):
        one = Strike(sheet(), AD)
        self.assertTrue(AD in one)
        self.assertFalse(BC in one)
        for value in odd_lines() + ["a", ["a", "d"], [AD], (AD,)]:
            self.assertFalse(value in one)

    def test_iteration(self):
        one = Strike(square(), BD, AC, AD)
        self.assert_same([list(one), [line for line in one]], [[AC, AD, BD]] * 2)
        self.assert_same([(line, other) for line in one for other in one],
                         [(line, other) for line in (AC, AD, BD) for other in (AC, AD, BD)])
        self.assert_same(list(Strike(square())), [])

    def test_told_lists_are_new(self):
        one = Strike(square(), AC)
        one.lines().clear()
        self.assert_same([one.lines(), one], [[AC], Strike(square(), AC)])

    def test_equal(self):
        one = Strike(square(), BD, AC)
        self.assertTrue(one == Strike(Sheet([["b", "a"], ["d", "c"]], square().lines()[::-1]), AC, BD))
        self.assertFalse(one != Strike(square(), AC, BD))
        for other in (Strike(square(), AC), Strike(square() - AD, AC, BD), Strike(square()), Strike(square(), AD, BC)):
            self.assertFalse(one == other)
            self.assertTrue(one != other)
        for value in odd_values() + [[AC, BD], (AC, BD), square()]:
            self.assertFalse(one == value)
            self.assertTrue(one != value)

    def test_repr(self):
        self.assertEqual(repr(Strike(square(), AC)), "Strike([('a', 'c')])")
        self.assertEqual(repr(Strike(square(), BD, AC)), "Strike([('a', 'c'), ('b', 'd')])")
        self.assertEqual([str(Strike(square())), f"{Strike(square())}"], ["Strike([])"] * 2)


class OperatorTests(Case):
    def test_a_line_more(self):
        one = Strike(square(), BD)
        for made in (one + AC, AC + one):
            self.assert_same(made, Strike(square(), AC, BD))
        for made in (one + BD, BD + one):
            self.assert_same(made, one)
        self.assert_same(one.lines(), [BD])
        kept = one
        one += AD
        self.assert_same([one.lines(), kept.lines()], [[AD, BD], [BD]])

    def test_no_line_more(self):
        one = Strike(sheet(), AD)
        for value in odd_lines() + [("a", "c"), ("d", "a"), "a", [AD]]:
            self.assert_error(InvalidLine, {"value": value}, lambda: one + value)
            if not isinstance(value, Sheet):
                self.assert_error(InvalidLine, {"value": value}, lambda: value + one)
        self.assert_error(InvalidLine, {"value": one}, lambda: one + one)
        self.assert_error(InvalidLine, {"value": one}, lambda: sheet() + one)
        self.assert_error(InvalidLine, {"value": sheet()}, lambda: one + sheet())

    def test_a_line_less(self):
        one = Strike(sheet(), AD, BC)
        self.assert_same([one - AD, one - AD - BC, one.lines()], [Strike(sheet(), BC), Strike(sheet()), [AD, BC]])
        for value in odd_lines() + [BC, ("a", "c"), "a", [AD], one]:
            self.assert_error(UnknownLine, {"value": value}, lambda: Strike(sheet(), AD) - value)
        one -= AD
        self.assert_same(one.lines(), [BC])

    def test_both(self):
        one, other = Strike(square(), AC, AD), Strike(square(), AD, BC)
        self.assert_same([one | other, other | one], [Strike(square(), AC, AD, BC)] * 2)
        self.assert_same([one & other, other & one], [Strike(square(), AD)] * 2)
        self.assert_same([one | one, one & one], [one, one])
        self.assert_same([one | Strike(square()), one & Strike(square())], [one, Strike(square())])
        self.assert_same([one, other], [Strike(square(), AC, AD), Strike(square(), AD, BC)])

    def test_within(self):
        one = Strike(square(), AC)
        self.assert_same([one.is_within(one + BD), (one + BD).is_within(one), one.is_within(other=one)],
                         [True, False, True])
        self.assert_same([Strike(square()).is_within(one), one.is_within(Strike(square()))], [True, False])
        self.assert_same(one.is_within(Strike(square(), BD)), False)

    def test_other_sheets(self):
        one, other = Strike(square(), AC), Strike(square() - BD, AC)
        wrong = {"one": square(), "other": square() - BD}
        turned = {"one": square() - BD, "other": square()}
        self.assert_error(OtherSheets, wrong, lambda: one | other)
        self.assert_error(OtherSheets, wrong, lambda: one & other)
        self.assert_error(OtherSheets, wrong, one.is_within, other)
        self.assert_error(OtherSheets, wrong, one.is_within, other=other)
        self.assert_error(OtherSheets, turned, lambda: other | one)
        self.assert_error(OtherSheets, turned, lambda: other & one)
        self.assert_error(OtherSheets, turned, other.is_within, one)


class LeastTests(Case):
    def test_ordinary(self):
        self.assert_same([Strike.least(square()), Strike.least(sheet=wide()), Strike.least(four())],
                         [Strike(square(), AC), Strike(wide(), *least_lists(wide())[0]), None])
        self.assert_same([len(Strike.least(three())), Strike.least(free())], [3, Strike(free())])

    def test_all(self):
        for told in few_lines():
            one = Strike.least(told)
            if one is not None:
                self.assert_same([type(one), one.lines(), one.does_help], [Strike, least_lists(told)[0], True])

    def test_too_many(self):
        wrong = {"what": "lines", "limit": 24}
        for told in (many_lines(25), many_clean_lines(25)):
            self.assert_error(TooMany, wrong, Strike.least, told)
        self.assert_same([Strike.least(many_lines(24)), len(Strike.least(many_clean_lines(24)))], [None, 0])


if __name__ == "__main__":
    unittest.main()
