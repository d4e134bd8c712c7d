"""What is asked of values that are passed together with a sheet, and the errors if they are not so."""

from uplines.basics import is_count, is_integer, is_list
from uplines.errors import InvalidLevel, InvalidNumber, InvalidOrder, InvalidOrders, InvalidPair, InvalidPairs
from uplines.errors import UnknownNode
from uplines.nets import check_limit
from uplines.sheets import SMALL_LEVELS, SMALL_LINES, SMALL_NODES


def is_node_of(sheet, value):
    """Whether any value is a node of the sheet."""
    # A sheet has its lines in it, too, but these are no strings.
    return isinstance(value, str) and value in sheet


def is_level_of(sheet, value):
    """Whether any value is the number of a level of the sheet."""
    return is_integer(value) and 0 <= value < len(sheet)


def is_pair_of(sheet, value):
    """Whether any value is a tuple of two different nodes of one level."""
    if not isinstance(value, tuple) or len(value) != 2:
        return False
    one, other = value
    if not is_node_of(sheet, one) or not is_node_of(sheet, other):
        return False
    return one != other and sheet.level_of(one) == sheet.level_of(other)


def is_order_of(names, value):
    """Whether any value is a list of all these sorted names, each once."""
    if not is_list(value) or len(value) != len(names):
        return False
    # Only strings can be sorted together whatever else they are.
    return all([isinstance(name, str) for name in value]) and sorted(value) == names


def are_orders_of(sheet, value):
    """Whether any value is a list with an order for each level, from level 0 on."""
    if not is_list(value) or len(value) != len(sheet):
        return False
    return all([is_order_of(names, order) for names, order in zip(sheet.levels(), value)])


def is_told_of(sheet, value):
    """Whether any value is a dict from levels of the sheet to orders of these levels."""
    if not isinstance(value, dict):
        return False
    for level, order in value.items():
        if not is_level_of(sheet, level) or not is_order_of(sheet.level(level), order):
            return False
    return True


def check_node(sheet, node):
    """Raise UnknownNode unless this is a node of the sheet."""
    if not is_node_of(sheet, node):
        raise UnknownNode(node)


def check_level(sheet, level):
    """Raise InvalidLevel unless this is the number of a level of the sheet."""
    if not is_level_of(sheet, level):
        raise InvalidLevel(level)


def check_pair(sheet, pair):
    """Raise InvalidPair unless this is a pair of the sheet."""
    if not is_pair_of(sheet, pair):
        raise InvalidPair(pair)


def check_pairs(sheet, pairs):
    """Raise InvalidPairs unless this is a list of pairs of the sheet."""
    if not is_list(pairs):
        raise InvalidPairs(None)
    for position, pair in enumerate(pairs):
        if not is_pair_of(sheet, pair):
            raise InvalidPairs(position)


def check_order(sheet, level, order):
    """Raise InvalidOrder unless this is an order of the level."""
    if not is_order_of(sheet.level(level), order):
        raise InvalidOrder(order)


def check_orders(sheet, orders):
    """Raise InvalidOrders unless these are told orders of the sheet."""
    if not is_told_of(sheet, orders):
        raise InvalidOrders(orders)


def check_count(number):
    """Raise InvalidNumber unless this is a count."""
    if not is_count(number):
        raise InvalidNumber(number)


def check_small(sheet):
    """Raise TooMany unless the sheet is small, with the first of its bounds that is passed."""
    check_limit("levels", len(sheet), SMALL_LEVELS)
    check_limit("nodes", max([len(names) for names in sheet.levels()]), SMALL_NODES)
    gaps = [sheet.gap(number) for number in range(len(sheet) - 1)]
    check_limit("lines", max([len(lines) for lines in gaps], default=0), SMALL_LINES)
