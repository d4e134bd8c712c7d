"""The class Told: told orders as a value."""

import copy
import unittest

from checking import Case, odd_tellings, odd_values
from plainly import clean_choices, having, samples, tellings
from small_bounds import beyond, within
from uplines.drawings import Drawing
from uplines.errors import InvalidLevel, InvalidOrders, NothingClean, OtherSheets, TooMany
from uplines.sheets import Sheet
from uplines.told import Told, may_be, settled


def uneven():
    return Sheet([["a", "b"], ["c", "d", "e"]], [("a", "c"), ("b", "d"), ("b", "e")])


def tall():
    return Sheet([["a", "b"], ["c", "d"], [], ["e", "f"]], [("a", "c"), ("b", "d")])


def both():
    return Told(uneven(), {1: ["e", "c", "d"], 0: ["b", "a"]})


class MadeTests(Case):
    def test_ordinary(self):
        told = both()
        self.assert_same(told.orders(), {0: ["b", "a"], 1: ["e", "c", "d"]})
        self.assert_same([told.levels(), list(told.orders()), told.sheet], [[0, 1], [0, 1], uneven()])
        self.assert_same([told[0], told[1], len(told)], [["b", "a"], ["e", "c", "d"], 2])
        self.assert_same(Told(orders={0: ("b", "a"), 1: ("e", "c", "d")}, sheet=uneven()), told)

    def test_none_told(self):
        for told in (Told(uneven()), Told(uneven(), None), Told(uneven(), {}), Told(sheet=uneven(), orders=None)):
            self.assert_same([told.orders(), told.levels(), len(told), told.may_be()], [{}, [], 0, True])
            self.assertTrue(told == Told(uneven()))

    def test_levels_without_nodes(self):
        told = Told(tall(), {2: ()})
        self.assert_same([told.orders(), told[2], 2 in told], [{2: []}, [], True])

    def test_what_is_passed_is_copied(self):
        orders = {1: ["e", "c", "d"], 0: ["b", "a"]}
        held = copy.deepcopy(orders)
        told = Told(uneven(), orders)
        self.assert_same([orders, list(orders)], [held, [1, 0]])
        orders[0].reverse()
        del orders[1]
        self.assertTrue(told == both())

    def test_told_values_are_new(self):
        told = both()
        told.orders()[0].clear()
        told.orders().clear()
        told.levels().clear()
        told[1].clear()
        self.assertTrue(told == both())

    def test_no_told_orders(self):
        for value in odd_tellings():
            if value is not None:
                self.assert_error(InvalidOrders, {"value": value}, Told, uneven(), value)

    def test_bounds(self):
        for sheet in within():
            Told(sheet, {level: sheet.level(level) for level in range(len(sheet))})
        for sheet, told in beyond():
            for orders in (None, {}, {0: sheet.level(0)}):
                self.assert_error(TooMany, told, Told, sheet, orders)
            self.assert_error(InvalidOrders, {"value": []}, Told, sheet, [])


class ReadTests(Case):
    def test_items(self):
        one = Told(uneven(), {1: ["e", "c", "d"]})
        for value in odd_values() + [0, 2, "1", [1], (1,), "c", ["e", "c", "d"], slice(0, 1)]:
            self.assert_error(InvalidLevel, {"value": value}, lambda: one[value])
            self.assertFalse(value in one)
        self.assertTrue(1 in one)
        zero = Told(uneven(), {0: ["b", "a"]})
        self.assertTrue(0 in zero)
        self.assertFalse(False in zero or True in one or True in zero)
        self.assert_error(InvalidLevel, {"value": False}, lambda: zero[False])

    def test_not_iterated(self):
        with self.assertRaises(TypeError):
            list(both())
        with self.assertRaises(TypeError):
            iter(both())

    def test_equal(self):
        self.assertTrue(both() == both())
        self.assertFalse(both() != both())
        self.assertTrue(both() == Told(uneven(), {0: ("b", "a"), 1: ("e", "c", "d")}))
        self.assertFalse(both() == both() - 0)
        self.assertFalse(both() == ~both())
        self.assertFalse(both() == Told(uneven() - ("a", "c"), both().orders()))
        self.assertTrue(both() != ~both())
        for value in odd_values() + [both().orders(), uneven(), [0, 1]]:
            self.assertFalse(both() == value)
            self.assertTrue(both() != value)

    def test_repr(self):
        self.assertEqual(repr(both()), "Told({0: ['b', 'a'], 1: ['e', 'c', 'd']})")
        self.assertEqual([repr(Told(uneven())), repr(Told(tall(), {2: ()}))], ["Told({})", "Told({2: []})"])

    def test_sheet_is_not_set(self):
        with self.assertRaises(AttributeError):
            both().sheet = uneven()


class OperatorTests(Case):
    def test_an_order_more(self):
        one = Told(uneven(), {1: ["e", "c", "d"]})
        for made in (one + (0, ["b", "a"]), (0, ("b", "a")) + one):
            self.assertTrue(made == both())
            self.assert_same(list(made.orders()), [0, 1])
        for made in (both() + (1, ["c", "d", "e"]), (1, ["c", "d", "e"]) + both()):
            self.assert_same(made.orders(), {0: ["b", "a"], 1: ["c", "d", "e"]})
        self.assert_same([one.orders(), both() + (0, ("b", "a"))], [{1: ["e", "c", "d"]}, both()])
        one += (0, ["b", "a"])
        self.assertTrue(one == both())

    def test_no_order_more(self):
        good = ["a", "b"]
        wrong = odd_values() + [value for value in odd_tellings() if value != (0, good)] + [
            (), (0,), (0, good, good), [0, good], (0, "ab"), (0, ["a"]), (0, None), (1, good), (2, []), (-1, good),
            (True, ["c", "d", "e"]), (False, good), (good, 0), ([0], good), ({}, good), (0, {"a": 1, "b": 2}),
            (0, ["a", "a"]), ("0", good), {0: good}, (0, [good]), both(), (0, 1), (both(), good)]
        for value in wrong:
            self.assert_error(InvalidOrders, {"value": value}, lambda: both() + value)
            if not isinstance(value, (Sheet, Told)):
                self.assert_error(InvalidOrders, {"value": value}, lambda: value + both())
        order = ["b", "a"]
        made = Told(uneven()) + (0, order)
        order.clear()
        self.assert_same(made[0], ["b", "a"])

    def test_an_order_less(self):
        self.assert_same(both() - 1, Told(uneven(), {0: ["b", "a"]}))
        self.assert_same((both() - 0 - 1).orders(), {})
        for value in odd_values() + [0, 2, "1", [1], (1, ["e", "c", "d"]), {1: ["e", "c", "d"]}]:
            self.assert_error(InvalidLevel, {"value": value}, lambda: both() - 0 - value)

    def test_turned_round(self):
        self.assert_same(~both(), Told(uneven(), {0: ["a", "b"], 1: ["d", "c", "e"]}))
        self.assert_same([~~both(), ~Told(uneven())], [both(), Told(uneven())])

    def test_or(self):
        low, high = Told(tall(), {0: ["b", "a"], 2: []}), Told(tall(), {3: ["f", "e"], 0: ["b", "a"]})
        for made in (low | high, high | low):
            self.assert_same(made, Told(tall(), {0: ["b", "a"], 2: [], 3: ["f", "e"]}))
        self.assert_same([low | Told(tall()), Told(tall()) | low, low | low], [low, low, low])
        unlike = Told(tall(), {3: ["e", "f"], 1: ["c", "d"], 0: ["b", "a"]})
        self.assert_error(InvalidLevel, {"value": 3}, lambda: high | unlike)
        self.assert_error(InvalidLevel, {"value": 0}, lambda: high | ~high)
        self.assert_error(InvalidLevel, {"value": 0}, lambda: unlike | ~high)

    def test_within(self):
        one = Told(uneven(), {0: ["b", "a"]})
        self.assert_same([one.is_within(both()), both().is_within(one), both().is_within(other=both())],
                         [True, False, True])
        self.assert_same([Told(uneven()).is_within(one), one.is_within(~one), one.is_within(Told(uneven()))],
                         [True, False, False])

    def test_other_sheets(self):
        one, other = both(), Told(uneven() - ("a", "c"), {0: ["a", "b"]})
        wrong = {"one": one.sheet, "other": other.sheet}
        self.assert_error(OtherSheets, wrong, lambda: one | other)
        self.assert_error(OtherSheets, wrong, one.is_within, other)
        self.assert_error(OtherSheets, {"one": other.sheet, "other": one.sheet}, lambda: other | one)
        self.assert_error(OtherSheets, {"one": other.sheet, "other": one.sheet}, other.is_within, one)
        self.assert_error(OtherSheets, wrong, one, Drawing.plain(other.sheet))
        self.assert_error(OtherSheets, wrong, one, drawing=Drawing.plain(other.sheet))

    def test_called(self):
        for choice, wanted in [([["b", "a"], ["e", "c", "d"]], True), ([["b", "a"], ["d", "c", "e"]], False),
                               ([["a", "b"], ["e", "c", "d"]], False)]:
            drawing = Drawing(uneven(), choice)
            self.assert_same([both()(drawing), both()(drawing=drawing)], [wanted, wanted])
            self.assert_same(Told(uneven())(drawing), True)
            self.assert_same((both() - 1)(drawing), choice[0] == ["b", "a"])

    def test_it_never_changes(self):
        told = both()
        for _ in (told + (0, ["a", "b"]), told - 1, ~told, told | told, told.is_within(told), told.may_be(),
                  told(Drawing.plain(uneven()))):
            self.assertTrue(told == both())


class SettleTests(Case):
    def test_ordinary(self):
        sheet = Sheet([["a", "b"], ["c", "d"]], [("a", "c"), ("b", "d")])
        self.assert_same(Told(sheet, {0: ["b", "a"]}).settle().orders(), {0: ["b", "a"], 1: ["d", "c"]})
        self.assert_same(Told(tall(), {1: ["d", "c"]}).settle().orders(), {0: ["b", "a"], 1: ["d", "c"], 2: []})
        self.assert_same([Told(sheet, {0: ["b", "a"]}).may_be(), (~both()).may_be()], [True, False])
        self.assert_error(NothingClean, {}, both().settle)

    def test_against_all_choices(self):
        for sheet in samples(20):
            choices = clean_choices(sheet)
            for orders in tellings(sheet, 5):
                told = Told(sheet, orders)
                left = having(choices, orders)
                self.assert_same([told.may_be(), may_be(sheet, orders)], [bool(left), bool(left)])
                if left:
                    wanted = {level: left[0][level] for level in settled(sheet, orders)}
                    self.assert_same(told.settle(), Told(sheet, wanted))
                    self.assertTrue(told.is_within(told.settle()))
                    self.assertTrue(all(told.settle()(Drawing(sheet, choice)) for choice in left))
                else:
                    self.assert_error(NothingClean, {}, told.settle)


if __name__ == "__main__":
    unittest.main()
