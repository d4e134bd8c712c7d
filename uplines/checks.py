"""What is asked of values that are passed together with a sheet, and the errors if they are not so."""

from uplines.basics import is_count, is_integer, is_list
from uplines.errors import InvalidLevel, InvalidLine, InvalidLines, InvalidNumber, InvalidOrder, InvalidOrders
from uplines.errors import InvalidPair, InvalidPairs, UnknownNode
from uplines.nets import check_limit
from uplines.sheets import SMALL_LEVELS, SMALL_LINES, SMALL_NODES


def is_node_of(sheet, value):
    """Whether any value is a node of the sheet."""
    # A sheet has its lines in it, too, but these are no strings.
    return isinstance(value, str) and value in sheet


def is_level_of(sheet, value):
    """Whether any value is the number of a level of the sheet."""
    return is_integer(value) and 0 <= value < len(sheet)


def is_pair_of(sheet, value):
    """Whether any value is a tuple of two different nodes of one level."""
    if not isinstance(value, tuple) or len(value) != 2:
        return False
    one, other = value
    if not is_node_of(sheet, one) or not is_node_of(sheet, other):
        return False
    return one != other and sheet.level_of(one) == sheet.level_of(other)


def is_line_of(sheet, value):
    """Whether any value is a line of the sheet."""
    # A sheet has its nodes in it, too, but these are no tuples.
    return isinstance(value, tuple) and value in sheet


def is_new_line_of(sheet, value):
    """Whether any value is a tuple of a node and a node of the level above, but no line of the sheet."""
    if not isinstance(value, tuple) or len(value) != 2 or value in sheet:
        return False
    low, high = value
    if not is_node_of(sheet, low) or not is_node_of(sheet, high):
        return False
    return sheet.level_of(high) == sheet.level_of(low) + 1


def first_odd_line(sheet, lines):
    """The position of the first in a list that is no line of the sheet, or stands ahead; None if there is none."""
    ahead = set()
    for position, line in enumerate(lines):
        if not is_line_of(sheet, line) or line in ahead:
            return position
        ahead.add(line)
    return None


def is_order_of(names, value):
    """Whether any value is a list of all these sorted names, each once."""
    if not is_list(value) or len(value) != len(names):
        return False
    # Only strings can be sorted together whatever else they are.
    return all([isinstance(name, str) for name in value]) and sorted(value) == names


def are_orders_of(sheet, value):
    """Whether any value is a list with an order for each level, from level 0 on."""
    if not is_list(value) or len(value) != len(sheet):
        return False
    return all([is_order_of(names, order) for names, order in zip(sheet.levels(), value)])


def is_told_of(sheet, value):
    """Whether any value is a dict from levels of the sheet to orders of these levels."""
    if not isinstance(value, dict):
        return False
    levels = sheet.levels()
    return all([is_level_of(sheet, level) and is_order_of(levels[level], order) for level, order in value.items()])


def check_node(sheet, node):
    """Raise UnknownNode unless this is a node of the sheet."""
    if not is_node_of(sheet, node):
        raise UnknownNode(node)


def check_level(sheet, level):
    """Raise InvalidLevel unless this is the number of a level of the sheet."""
    if not is_level_of(sheet, level):
        raise InvalidLevel(level)


def check_pair(sheet, pair):
    """Raise InvalidPair unless this is a pair of the sheet."""
    if not is_pair_of(sheet, pair):
        raise InvalidPair(pair)


def check_pairs(sheet, pairs):
    """Raise InvalidPairs unless this is a list of pairs of the sheet."""
    if not is_list(pairs):
        raise InvalidPairs(None)
    for position, pair in enumerate(pairs):
        if not is_pair_of(sheet, pair):
            raise InvalidPairs(position)


def check_new_line(sheet, line):
    """Raise InvalidLine unless this is a new line of the sheet."""
    if not is_new_line_of(sheet, line):
        raise InvalidLine(line)


def check_unlike_lines(sheet, lines):
    """Raise InvalidLines unless this is a list of unlike lines of the sheet."""
    if not is_list(lines):
        raise InvalidLines(None)
    position = first_odd_line(sheet, lines)
    if position is not None:
        raise InvalidLines(position)


def check_order(sheet, level, order):
    """Raise InvalidOrder unless this is an order of the level."""
    if not is_order_of(sheet.levels()[level], order):
        raise InvalidOrder(order)


def check_orders(sheet, orders):
    """Raise InvalidOrders unless these are told orders of the sheet."""
    if not is_told_of(sheet, orders):
        raise InvalidOrders(orders)


def check_count(number):
    """Raise InvalidNumber unless this is a count."""
    if not is_count(number):
        raise InvalidNumber(number)


def check_up_to(number, most):
    """Raise InvalidNumber unless this is a count up to so many."""
    if not is_count(number) or number > most:
        raise InvalidNumber(number)


def check_small(sheet):
    """Raise TooMany unless the sheet is small, with the first of its bounds that is passed."""
    check_limit("levels", len(sheet), SMALL_LEVELS)
    check_limit("nodes", max([len(names) for names in sheet.levels()]), SMALL_NODES)
    gaps = [sheet.gap(number) for number in range(len(sheet) - 1)]
    check_limit("lines", max([len(lines) for lines in gaps], default=0), SMALL_LINES)
