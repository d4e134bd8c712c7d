"""Pairs that are told ahead: what follows from them, and whether they clash."""

from uplines.basics import is_count, is_list
from uplines.checks import check_pair, check_pairs, check_small, is_pair_of
from uplines.ways import steps_from, turned


def follows(sheet, pairs):
    """The sorted list of the pairs that follow from told pairs."""
    check_pairs(sheet, pairs)
    check_small(sheet)
    return sorted([row[1] for row in whole_trace(sheet, pairs)])


def does_clash(sheet, pairs):
    """Whether a pair and its turned pair follow from told pairs."""
    return clash(sheet, pairs) is not None


def trace(sheet, pairs, pair):
    """A trace of a pair from told pairs, None if it does not follow."""
    check_pairs(sheet, pairs)
    check_pair(sheet, pair)
    check_small(sheet)
    return trace_up_to(whole_trace(sheet, pairs), pair)


def is_trace(sheet, pairs, pair, value):
    """Whether any value is a trace of a pair from told pairs."""
    check_pairs(sheet, pairs)
    check_pair(sheet, pair)
    check_small(sheet)
    return is_any_trace(sheet, pairs, value) and value[-1][1] == pair


def clash(sheet, pairs):
    """A clash paper against told pairs, None if there is none."""
    check_pairs(sheet, pairs)
    check_small(sheet)
    rows = whole_trace(sheet, pairs)
    ahead = {}
    for row in rows:
        if turned(row[1]) in ahead:
            return trace_up_to(rows, row[1])
        ahead[row[1]] = True
    return None


def is_clash(sheet, pairs, value):
    """Whether any value is a clash paper against told pairs."""
    check_pairs(sheet, pairs)
    check_small(sheet)
    return is_any_trace(sheet, pairs, value) and turned(value[-1][1]) in [row[1] for row in value]


def third(one, other):
    """The pair (a, c) of two pairs (a, b) and (b, c), None of any others."""
    if one[1] != other[0] or one[0] == other[1]:
        return None
    return (one[0], other[1])


def whole_trace(sheet, pairs):
    """A trace in which each pair that follows stands once."""
    rows = []
    places = {}
    for pair in pairs:
        put(rows, places, ("told", pair))
    at = 0
    while at < len(rows):
        pair = rows[at][1]
        for near in steps_from(sheet, pair):
            put(rows, places, ("step", near, at))
        # Two pairs meet at the later one of them, so all that stand behind this one can be left for then.
        for known, place in list(places.items()):
            put(rows, places, ("three", third(pair, known), at, place))
            put(rows, places, ("three", third(known, pair), place, at))
        at = at + 1
    return rows


def put(rows, places, row):
    """Put a tuple behind a trace, if it has a pair that does not stand there already."""
    if row[1] is not None and row[1] not in places:
        places[row[1]] = len(rows)
        rows.append(row)


def trace_up_to(rows, pair):
    """The trace up to the tuple of a pair, None if the pair does not stand there."""
    for position, row in enumerate(rows):
        if row[1] == pair:
            return rows[:position + 1]
    return None


def is_any_trace(sheet, pairs, value):
    """Whether any value is a trace of some pair from told pairs."""
    if not is_list(value) or len(value) == 0:
        return False
    ahead = []
    for row in value:
        if not can_come(sheet, pairs, ahead, row):
            return False
        ahead.append(row[1])
    return True


def can_come(sheet, pairs, ahead, row):
    """Whether any value can come next in a trace, the pairs of the tuples ahead being these."""
    if not isinstance(row, tuple) or len(row) < 2 or not is_pair_of(sheet, row[1]):
        return False
    if not all([is_count(position) and position < len(ahead) for position in row[2:]]):
        return False
    grounds = [ahead[position] for position in row[2:]]
    if row[0] == "told":
        return len(grounds) == 0 and row[1] in pairs
    if row[0] == "step":
        return len(grounds) == 1 and row[1] in steps_from(sheet, grounds[0])
    return row[0] == "three" and len(grounds) == 2 and third(grounds[0], grounds[1]) == row[1]
