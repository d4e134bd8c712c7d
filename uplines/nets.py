"""Levels and lines as plain lists: what a sheet checks of them and reads off them."""

from uplines.basics import is_list, is_name
from uplines.errors import InvalidLevels, InvalidLines, NameTaken, TooMany


def check_levels(levels):
    """Raise InvalidLevels unless this is a list of one or more lists of names, all different."""
    if not is_list(levels) or len(levels) == 0:
        raise InvalidLevels(None)
    ahead = set()
    for position, names in enumerate(levels):
        if not is_list(names):
            raise InvalidLevels(position)
        for name in names:
            if not is_name(name) or name in ahead:
                raise InvalidLevels(position)
            ahead.add(name)


def places_of(levels):
    """The dict from each node to the number of its level."""
    places = {}
    for number, names in enumerate(levels):
        for name in names:
            places[name] = number
    return places


def is_node(value, places):
    """Whether any value is one of the nodes."""
    # Lists and dicts cannot be looked up, so only strings are.
    return isinstance(value, str) and value in places


def fits_as_line(value, places):
    """Whether any value is a tuple of a node and a node of the level above."""
    if not isinstance(value, tuple) or len(value) != 2:
        return False
    low, high = value
    if not is_node(low, places) or not is_node(high, places):
        return False
    return places[high] == places[low] + 1


def check_fitting(lines, places):
    """Raise InvalidLines unless this is a list of tuples that fit as lines."""
    if not is_list(lines):
        raise InvalidLines(None)
    for position, line in enumerate(lines):
        if not fits_as_line(line, places):
            raise InvalidLines(position)


def check_lines(lines, places):
    """Raise InvalidLines unless this is a list of different tuples that fit as lines."""
    if not is_list(lines):
        raise InvalidLines(None)
    ahead = set()
    for position, line in enumerate(lines):
        if not fits_as_line(line, places) or line in ahead:
            raise InvalidLines(position)
        ahead.add(line)


def check_limit(what, many, limit):
    """Raise TooMany if there are more than the limit."""
    if many > limit:
        raise TooMany(what, limit)


def check_different(names):
    """Raise NameTaken with the first of the names that stands ahead of itself."""
    ahead = set()
    for name in names:
        if name in ahead:
            raise NameTaken(name)
        ahead.add(name)


def check_apart(nodes, places):
    """Raise NameTaken with the least of the nodes that has a place, if one has."""
    common = [node for node in nodes if node in places]
    if len(common) > 0:
        raise NameTaken(min(common))


def ends_by_node(nodes, lines):
    """The dict from each node to the list of the nodes to which lines (start, end) lead from it."""
    ends = {}
    for node in nodes:
        ends[node] = []
    for start, end in lines:
        ends[start].append(end)
    return ends


def reached_from(node, ups, downs):
    """The dict from all nodes that hang together with a node, itself among them, to True."""
    reached = {node: True}
    waiting = [node]
    while len(waiting) > 0:
        at = waiting.pop()
        for near in ups[at] + downs[at]:
            if near not in reached:
                reached[near] = True
                waiting.append(near)
    return reached
