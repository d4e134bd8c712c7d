"""All clean drawings: how many, each by its number, and how many with told orders or pairs."""

import copy
import unittest

from checking import Case, grid, odd_counts, odd_pair_lists, odd_tellings, odd_values
from plainly import clean_choices, every_choice, having, keeping, lists_of_pairs, random_sheet, samples, tellings
from small_bounds import beyond, within
from uplines.counts import Gallery, count_pairs, count_with, drawing_at, drawings, how_many, number_of
from uplines.drawings import Drawing
from uplines.errors import InvalidDrawing, InvalidNumber, InvalidOrders, InvalidPairs, TooMany
from uplines.sheets import Sheet


def sheet():
    return Sheet([["a", "b", "c"], ["x", "y"]], [("a", "x"), ("b", "y"), ("c", "y")])


def square():
    return Sheet([["a", "b"], ["c", "d"]], [("a", "c"), ("a", "d"), ("b", "c"), ("b", "d")])


def uneven():
    return Sheet([["a", "b"], ["c", "d", "e"]], [("a", "c"), ("b", "d"), ("b", "e")])


def largest():
    """Six levels of five nodes without lines."""
    return Sheet(grid(6, 5))


def plenty():
    """Sheets with all their clean drawings, found plainly."""
    told = [*samples(60), *[random_sheet(seed, 4, 3, 3) for seed in range(4)]]
    return [(one, [Drawing(one, choice) for choice in clean_choices(one)]) for one in told]


def wrong_drawings():
    """Values that are no clean drawing of the sheet."""
    return odd_values() + [
        Drawing(sheet(), [["b", "a", "c"], ["x", "y"]]), Drawing(sheet(), [["a", "b", "c"], ["y", "x"]]),
        Drawing.plain(sheet() - ("a", "x")), Drawing.plain(Sheet([["a"]])), [["a", "b", "c"], ["x", "y"]],
        (("a", "b", "c"), ("x", "y")), sheet(), 0, "drawing", Drawing]


class HowManyTests(Case):
    def test_ordinary(self):
        self.assert_same([how_many(sheet()), how_many(square()), how_many(sheet=uneven())], [4, 0, 4])
        self.assert_same([how_many(Sheet([[]])), how_many(Sheet([["a"], [], ["b"]]))], [1, 1])
        self.assert_same([how_many(Sheet([["a", "b", "c"]])), how_many(Sheet([["a", "b"], ["c", "d"]]))], [6, 4])

    def test_great_numbers(self):
        self.assert_same(how_many(largest()), 120 ** 6)
        told = {0: largest().level(0), 4: largest().level(4)[::-1]}
        self.assert_same(count_with(largest(), told), 120 ** 4)
        pairs = [tuple(names[:2]) for names in largest().levels()]
        self.assert_same(count_pairs(largest(), pairs * 3), 60 ** 6)
        levels = grid(6, 5)
        stairs = [(names[at], more[at + by]) for names, more in zip(levels[:2], levels[1:3])
                  for at in range(5) for by in (0, 1) if at + by < 5]
        self.assert_same(how_many(Sheet(levels, stairs)), 2 * 120 ** 3)

    def test_against_all_choices(self):
        for told, found in plenty():
            self.assert_same(how_many(told), len(found))
            if max([len(names) for names in told.levels()]) > 1:
                self.assertEqual(how_many(told) // 2 * 2, how_many(told))


class NumberedTests(Case):
    def test_ordinary(self):
        self.assert_same(drawing_at(sheet(), 2), Drawing(sheet(), [["b", "c", "a"], ["y", "x"]]))
        self.assert_same(drawing_at(number=0, sheet=sheet()), Drawing(sheet(), [["a", "b", "c"], ["x", "y"]]))
        self.assert_same(number_of(drawing=drawing_at(sheet(), 3), sheet=sheet()), 3)

    def test_against_all_choices(self):
        for told, found in plenty():
            self.assert_same(list(drawings(told)), found)
            for number, drawing in enumerate(found):
                self.assert_same(drawing_at(told, number), drawing)
                self.assert_same(number_of(told, drawing), number)

    def test_neither_goes_through_those_ahead(self):
        for number in (0, 1, 119, 120, 10 ** 12, 120 ** 6 // 2 - 1, 120 ** 6 // 2, 120 ** 6 - 1):
            drawing = drawing_at(largest(), number)
            self.assert_same(number_of(largest(), drawing), number)
        self.assert_same(drawing_at(largest(), 120 ** 6 - 1), -Drawing.plain(largest()))
        self.assert_same(drawing_at(largest(), 120 ** 3)[2], ["n02x00", "n02x01", "n02x02", "n02x04", "n02x03"])

    def test_number(self):
        for value in odd_counts():
            self.assert_error(InvalidNumber, {"value": value}, drawing_at, sheet(), value)
            for told, _ in beyond():
                self.assert_error(InvalidNumber, {"value": value}, drawing_at, told, value)
        for value in (4, 5, 10 ** 29):
            self.assert_error(InvalidNumber, {"value": value}, drawing_at, sheet(), value)
        self.assert_error(InvalidNumber, {"value": 0}, drawing_at, square(), 0)
        self.assert_error(InvalidNumber, {"value": 120 ** 6}, drawing_at, largest(), 120 ** 6)

    def test_no_drawing(self):
        for value in wrong_drawings():
            self.assert_error(InvalidDrawing, {"value": value}, number_of, sheet(), value)
        crossed = Drawing.plain(square())
        self.assert_error(InvalidDrawing, {"value": crossed}, number_of, square(), crossed)

    def test_of_an_equal_sheet(self):
        other = Sheet([["c", "b", "a"], ["y", "x"]], sheet().lines()[::-1])
        self.assert_same(number_of(other, drawing_at(sheet(), 1)), 1)


class DrawingsTests(Case):
    def test_ordinary(self):
        self.assert_same([drawing.orders()[0] for drawing in drawings(sheet=sheet())],
                         [["a", "b", "c"], ["a", "c", "b"], ["b", "c", "a"], ["c", "b", "a"]])
        self.assert_same([list(drawings(square())), list(drawings(Sheet([[]])))], [[], [Drawing.plain(Sheet([[]]))]])
        self.assertEqual(type(drawings(sheet())).__name__, "generator")

    def test_each_is_made_when_it_is_asked_for(self):
        one, other = drawings(largest()), drawings(largest())
        first = next(one)
        self.assert_same([first, next(other)], [Drawing.plain(largest())] * 2)
        for number in range(1, 300):
            drawing = next(one)
            if number < 4 or number == 299:
                self.assert_same(number_of(largest(), drawing), number)
        self.assert_same(number_of(largest(), next(other)), 1)

    def test_errors_come_with_the_iteration(self):
        for told, wrong in beyond():
            self.assert_error(TooMany, wrong, lambda: list(drawings(told)))
            self.assert_error(TooMany, wrong, lambda: next(drawings(told)))


class CountTests(Case):
    def test_ordinary(self):
        self.assert_same([count_with(sheet(), {}), count_with(sheet(), {1: ["x", "y"]})], [4, 2])
        self.assert_same(count_with(orders={0: ("b", "a", "c")}, sheet=sheet()), 0)
        self.assert_same([count_pairs(sheet(), []), count_pairs(sheet(), [("b", "c")])], [4, 2])
        self.assert_same(count_pairs(pairs=(("a", "b"), ("x", "y"), ("a", "b")), sheet=sheet()), 2)
        self.assert_same(count_pairs(sheet(), [("a", "b"), ("b", "a")]), 0)

    def test_against_all_choices(self):
        for told, found in plenty():
            choices = [drawing.orders() for drawing in found]
            for orders in tellings(told, 3):
                self.assert_same(count_with(told, orders), len(having(choices, orders)))
            for pairs in lists_of_pairs(told):
                self.assert_same(count_pairs(told, pairs), len(keeping(choices, pairs)))

    def test_no_told_orders_and_pairs(self):
        for value in odd_tellings():
            self.assert_error(InvalidOrders, {"value": value}, count_with, uneven(), value)
        four = Sheet([["a", "b"], ["c", "d"]])
        for position, value in odd_pair_lists():
            self.assert_error(InvalidPairs, {"position": position}, count_pairs, four, value)

    def test_what_is_passed_stays(self):
        orders, pairs = {1: ["x", "y"], 0: ["a", "b", "c"]}, [("a", "b"), ("x", "y")]
        held = copy.deepcopy([orders, pairs])
        count_with(sheet(), orders), count_pairs(sheet(), pairs)
        self.assert_same([orders, pairs], held)


class GalleryTests(Case):
    def test_ordinary(self):
        gallery = Gallery(sheet=sheet())
        self.assert_same([gallery.how_many(), gallery.sheet], [4, sheet()])
        for number in range(4):
            self.assert_same(gallery[number], drawing_at(sheet(), number))
            self.assert_same(gallery[number - 4], drawing_at(sheet(), number))
            self.assert_same(gallery.index(gallery[number]), number)
        self.assert_same(gallery.index(drawing=gallery[-1]), 3)
        self.assertIsNot(gallery[1], gallery[1])

    def test_against_all_choices(self):
        for told, found in plenty()[::4]:
            gallery = Gallery(told)
            self.assert_same(gallery.how_many(), len(found))
            for number, drawing in enumerate(found):
                self.assert_same([gallery[number], gallery[number - len(found)]], [drawing, drawing])
                self.assert_same([gallery.index(drawing), drawing in gallery], [number, True])
            for choice in every_choice(told)[::4]:
                drawing = Drawing(told, choice)
                self.assertEqual(drawing in gallery, drawing in found)

    def test_great_numbers(self):
        gallery = Gallery(largest())
        self.assert_same([gallery.how_many(), gallery[-1], gallery[-120 ** 6]],
                         [120 ** 6, -Drawing.plain(largest()), Drawing.plain(largest())])
        for number in range(0, 120 ** 6, 120 ** 6 // 50):
            self.assert_same([gallery.index(gallery[number]), gallery[number - 120 ** 6]], [number, gallery[number]])

    def test_number(self):
        gallery = Gallery(sheet())
        for value in [*odd_counts(), 4, -5, 12, 10 ** 29, -10 ** 29, slice(0, 1), "0", (0,)]:
            if value != -1:
                self.assert_error(InvalidNumber, {"value": value}, lambda: gallery[value])
        for value in (0, -1, 1):
            self.assert_error(InvalidNumber, {"value": value}, lambda: Gallery(square())[value])

    def test_in_and_index(self):
        for value in wrong_drawings():
            self.assertFalse(value in Gallery(sheet()))
            self.assert_error(InvalidDrawing, {"value": value}, Gallery(sheet()).index, value)
        self.assertTrue(Drawing.plain(sheet()) in Gallery(sheet()))

    def test_not_iterated(self):
        for action in (list, iter, tuple):
            with self.assertRaises(TypeError):
                action(Gallery(sheet()))
        with self.assertRaises(TypeError):
            len(Gallery(sheet()))

    def test_equal(self):
        other = Sheet([["c", "b", "a"], ["y", "x"]], sheet().lines()[::-1])
        self.assertTrue(Gallery(sheet()) == Gallery(other))
        self.assertFalse(Gallery(sheet()) != Gallery(other))
        self.assertFalse(Gallery(sheet()) == Gallery(sheet() - ("a", "x")))
        for value in odd_values() + [sheet(), list(drawings(sheet()))]:
            self.assertFalse(Gallery(sheet()) == value)
            self.assertTrue(Gallery(sheet()) != value)

    def test_sheet_is_not_set(self):
        with self.assertRaises(AttributeError):
            Gallery(sheet()).sheet = square()


class BoundTests(Case):
    def test_within(self):
        for told in within():
            many = how_many(told)
            self.assert_same([count_with(told, {}), count_pairs(told, []), Gallery(told).how_many()], [many] * 3)
            if many:
                self.assert_same(number_of(told, drawing_at(told, many - 1)), many - 1)

    def test_beyond(self):
        for told, wrong in beyond():
            for action in (how_many, Gallery):
                self.assert_error(TooMany, wrong, action, told)
            for number in (0, 10 ** 29):
                self.assert_error(TooMany, wrong, drawing_at, told, number)
            self.assert_error(TooMany, wrong, count_with, told, {0: told.level(0)})
            self.assert_error(InvalidOrders, {"value": None}, count_with, told, None)
            self.assert_error(TooMany, wrong, count_pairs, told, told.pairs())
            self.assert_error(InvalidPairs, {"position": None}, count_pairs, told, None)
            self.assert_error(InvalidDrawing, {"value": None}, number_of, told, None)
            plain = Drawing.plain(told)
            if plain.is_clean:
                self.assert_error(TooMany, wrong, number_of, told, plain)
            else:
                self.assert_error(InvalidDrawing, {"value": plain}, number_of, told, plain)


if __name__ == "__main__":
    unittest.main()
