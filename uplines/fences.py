"""Clean drawings that keep told pairs, and fences of orders that show that there is none."""

from uplines.basics import is_list
from uplines.checks import check_pair, check_pairs, check_small, is_order_of
from uplines.choices import Choices, first_drawing, has_pairs, reached_above, rows_keeping
from uplines.errors import NothingClean


def keeps(drawing, pairs):
    """Whether a drawing, clean or not, keeps told pairs."""
    check_pairs(drawing.sheet, pairs)
    check_small(drawing.sheet)
    return all([has_pairs(order, pairs) for order in drawing.orders()])


def drawing_with(sheet, pairs):
    """The first clean drawing that keeps told pairs, None if there is none."""
    check_pairs(sheet, pairs)
    check_small(sheet)
    return first_drawing(sheet, rows_keeping(sheet, pairs))


def can_keep(sheet, pairs):
    """Whether some clean drawing keeps told pairs."""
    return drawing_with(sheet, pairs) is not None


def fence(sheet, pairs):
    """A fence against told pairs, None if some clean drawing keeps them."""
    check_pairs(sheet, pairs)
    check_small(sheet)
    rows = rows_keeping(sheet, pairs)
    lists = [rows[0]]
    while len(lists[-1]) > 0 and len(lists) < len(rows):
        lists.append(reached_above(sheet, len(lists) - 1, lists[-1], rows[len(lists)]))
    if len(lists[-1]) > 0:
        return None
    return [[list(order) for order in orders] for orders in lists]


def is_fence(sheet, pairs, value):
    """Whether any value is a fence against told pairs."""
    check_pairs(sheet, pairs)
    check_small(sheet)
    if not is_list(value) or not 1 <= len(value) <= len(sheet):
        return False
    if not all([are_unlike_orders(names, orders) for names, orders in zip(sheet.levels(), value)]):
        return False
    lists = [[tuple(order) for order in orders] for orders in value]
    if len(lists[-1]) > 0:
        return False
    rows = rows_keeping(sheet, pairs)
    wanted = [rows[0]]
    for level, orders in enumerate(lists[:-1]):
        wanted.append(reached_above(sheet, level, orders, rows[level + 1]))
    return all([order in orders for orders, needed in zip(lists, wanted) for order in needed])


def bound(sheet, pairs):
    """The sorted list of the pairs that each clean drawing has that keeps told pairs."""
    check_pairs(sheet, pairs)
    check_small(sheet)
    rows = Choices(sheet, rows_keeping(sheet, pairs)).by_level()
    if len(rows[0]) == 0:
        raise NothingClean()
    return [pair for pair in sheet.pairs() if all_have(rows[sheet.level_of(pair[0])], pair)]


def is_bound(sheet, pairs, pair):
    """Whether a pair is bound by told pairs, which it is not if no clean drawing keeps these."""
    check_pairs(sheet, pairs)
    check_pair(sheet, pair)
    check_small(sheet)
    orders = Choices(sheet, rows_keeping(sheet, pairs)).by_level()[sheet.level_of(pair[0])]
    return len(orders) > 0 and all_have(orders, pair)


def are_unlike_orders(names, value):
    """Whether any value is a list of orders of a level, none of which stands there twice."""
    if not is_list(value) or not all([is_order_of(names, order) for order in value]):
        return False
    return len({tuple(order) for order in value}) == len(value)


def all_have(orders, pair):
    """Whether all of these orders have a pair of their level."""
    return all([has_pairs(order, [pair]) for order in orders])
