"""Integers, counts and names."""

import unittest

from checking import Case, odd_values
from uplines.basics import is_count, is_integer, is_name

SIGNS = "abcdefghijklmnopqrstuvwxyz0123456789"


class BasicsTests(Case):
    def test_integers(self):
        for value in [0, 1, -1, 7, 10 ** 29, -(10 ** 29)]:
            self.assertIs(is_integer(value), True)
        for value in [True, False, None, "", "1", [], [1], (1,), (), {}, {1: 1}, b"1"]:
            self.assertIs(is_integer(value), False)

    def test_counts(self):
        for value in [0, 1, 2, 10 ** 29]:
            self.assertIs(is_count(value), True)
        for value in [-1, -(10 ** 29), True, False, None, "0", [0], (0,), {0: 0}, b"0"]:
            self.assertIs(is_count(value), False)

    def test_each_sign_of_a_name(self):
        for code in list(range(32, 127)) + [10]:
            sign = chr(code)
            self.assertIs(is_name(sign), sign in SIGNS, repr(sign))
            self.assertIs(is_name("ab" + sign), sign in SIGNS, repr(sign))
            self.assertIs(is_name(sign + "0z"), sign in SIGNS, repr(sign))

    def test_lengths_of_a_name(self):
        for length in range(12):
            self.assertIs(is_name("a9b8c7d6e5f4"[:length]), 1 <= length <= 6)
        self.assertIs(is_name("a" * 20000), False)

    def test_any_value_is_no_name(self):
        for value in odd_values():
            self.assertIs(is_name(value), False)

    def test_bools_for_any_value(self):
        for value in odd_values() + ["a", 0, ("a", "b"), object()]:
            for asked in (is_integer, is_count, is_name):
                self.assertIs(type(asked(value)), bool)

    def test_parameters_by_name(self):
        self.assertIs(is_integer(value=3), True)
        self.assertIs(is_count(value=-3), False)
        self.assertIs(is_name(value="a1"), True)

    def test_defined_in_basics(self):
        for asked in (is_integer, is_count, is_name):
            self.assertEqual(asked.__module__, "uplines.basics")


if __name__ == "__main__":
    unittest.main()
