"""Clean drawings: whether there is one, the first and the last, and orders that go together."""

from uplines.checks import are_orders_of, check_level, check_order, check_small
from uplines.choices import Choices, all_orders, first_drawing, fitting, free_rows
from uplines.drawings import Drawing
from uplines.errors import InvalidLevel, NothingClean
from uplines.walkers import change, has_change, is_change


def has_clean(sheet):
    """Whether some drawing of any sheet is clean."""
    return not has_change(sheet)


def first_clean(sheet):
    """The clean drawing with the least list of orders, None if there is none."""
    check_small(sheet)
    return first_drawing(sheet, free_rows(sheet))


def last_clean(sheet):
    """The clean drawing with the greatest list of orders, None if there is none."""
    check_small(sheet)
    choices = Choices(sheet, free_rows(sheet))
    if choices.how_many() == 0:
        return None
    return Drawing(sheet, choices.at(choices.how_many() - 1))


def together(sheet, level, order):
    """The sorted list of the orders of the next level up that go together with an order of a level."""
    check_level(sheet, level)
    if level == len(sheet) - 1:
        raise InvalidLevel(level)
    check_order(sheet, level, order)
    check_small(sheet)
    told = tuple(order)
    fits = fitting(sheet, level, [told], all_orders(sheet.levels()[level + 1]))
    return [list(upper) for upper in fits[told]]


def going_up(sheet, level):
    """The sorted list of the orders of a level that go up."""
    check_level(sheet, level)
    check_small(sheet)
    return orders_in_clean(sheet.cut(level, len(sheet) - 1), 0)


def going_down(sheet, level):
    """The sorted list of the orders of a level that go down."""
    check_level(sheet, level)
    check_small(sheet)
    return orders_in_clean(sheet.cut(0, level), level)


def paper(sheet):
    """The orders of a clean drawing, or a change, with the word for it."""
    drawing = first_clean(sheet)
    if drawing is None:
        return ("change", change(sheet))
    return ("orders", drawing.orders())


def is_paper(sheet, value):
    """Whether any value is a paper of any sheet."""
    if not isinstance(value, tuple) or len(value) != 2:
        return False
    word, shown = value
    if word == "orders":
        return are_orders_of(sheet, shown) and Drawing(sheet, shown).is_clean
    return word == "change" and is_change(sheet, shown)


def check_clean_and_small(sheet):
    """Raise NothingClean if the sheet has no clean drawing, and behind that TooMany unless it is small."""
    if not has_clean(sheet):
        raise NothingClean()
    check_small(sheet)


def orders_in_clean(sheet, level):
    """The sorted list of the orders that a level has in clean drawings."""
    orders = Choices(sheet, free_rows(sheet)).by_level()[level]
    return [list(order) for order in orders]
