"""Papers read plainly, as the document tells them, for values of any kind."""

import itertools

from plainly import clean_choices, crossing_lines, has_pair, near_pairs, widened_plainly
from uplines.drawings import Drawing
from uplines.sheets import Sheet


def is_row(value):
    return isinstance(value, (list, tuple))


def is_whole(value):
    return isinstance(value, int) and not isinstance(value, bool)


def is_pair(sheet, value):
    return isinstance(value, tuple) and any(value in itertools.permutations(names, 2) for names in sheet.levels())


def is_walk(sheet, value):
    if not is_row(value) or len(value) == 0 or not all(is_pair(sheet, pair) for pair in value):
        return False
    near = near_pairs(sheet)
    return all(goal in near[pair] for pair, goal in zip(value, value[1:]))


def is_change(sheet, value):
    return is_walk(sheet, value) and value[-1] == value[0][::-1]


def passed(sheet, way):
    """The lines of a walk, sorted."""
    steps = [ends for pair, goal in zip(way, way[1:]) for ends in zip(pair, goal)]
    return sorted(line for line in sheet.lines() if line in steps or line[::-1] in steps)


def is_order(names, value):
    return is_row(value) and tuple(value) in itertools.permutations(names)


def are_orders(sheet, value):
    return is_row(value) and len(value) == len(sheet) and all(map(is_order, sheet.levels(), value))


def are_clean(sheet, value):
    return are_orders(sheet, value) and not crossing_lines(sheet, value)


def is_drawing(sheet, pairs, value):
    """Whether a value is a clean drawing of the sheet that has the pairs."""
    return (isinstance(value, Drawing) and value.sheet == sheet and are_clean(sheet, value.orders())
            and all(has_pair(value.orders(), pair) for pair in pairs))


def go_together(lines, order, upper):
    return not any((order.index(u) < order.index(w)) != (upper.index(v) < upper.index(x))
                   for (u, v), (w, x) in itertools.combinations(lines, 2) if u != w and v != x)


def is_fence(sheet, pairs, value):
    """Whether a value is a fence against told pairs."""
    if not is_row(value) or not 1 <= len(value) <= len(sheet):
        return False
    for names, orders in zip(sheet.levels(), value):
        if not is_row(orders) or not all(is_order(names, order) for order in orders):
            return False
    lists = [[tuple(order) for order in orders] for orders in value]
    if lists[-1] or any(len(set(orders)) < len(orders) for orders in lists):
        return False
    for level, orders in enumerate(lists):
        lines = sheet.gap(level - 1) if level else []
        for order in itertools.permutations(sheet.level(level)):
            kept = all(has_pair([order], pair) for pair in pairs if pair[0] in order)
            comes = level == 0 or any(go_together(lines, below, order) for below in lists[level - 1])
            if kept and comes and order not in orders:
                return False
    return True


def is_sure_paper(sheet, pair, other, value):
    if not isinstance(value, tuple) or not value:
        return False
    same, opposite = [pair, other], [pair, other[::-1]]
    if value[0] == "alike":
        return len(value) == 2 and is_fence(sheet, opposite, value[1])
    if value[0] == "turned":
        return len(value) == 2 and is_fence(sheet, same, value[1])
    return (value[0] == "free" and len(value) == 3
            and is_drawing(sheet, same, value[1]) and is_drawing(sheet, opposite, value[2]))


def is_end_paper(sheet, node, value):
    pairs = [(node, other) for other in sheet.level(sheet.level_of(node)) if other != node]
    return is_drawing(sheet, pairs, value) or is_fence(sheet, pairs, value)


def are_neighbour_papers(sheet, pair, value):
    others = [node for node in sheet.level(sheet.level_of(pair[0])) if node not in pair]
    return isinstance(value, dict) and sorted(map(repr, value)) == sorted(map(repr, others)) and all(
        is_fence(sheet, [(pair[0], node), (node, pair[1])], value[node]) for node in others)


def is_tree(sheet, many, value):
    if not isinstance(value, tuple) or len(value) < 2 or not is_change(sheet, value[1]):
        return False
    if many == 0:
        return value[0] == "change" and len(value) == 2
    if value[0] != "strike" or len(value) != 3 or not isinstance(value[2], dict):
        return False
    lines = passed(sheet, value[1])
    if sorted(map(repr, value[2])) != sorted(map(repr, lines)):
        return False
    return all(is_tree(stripped(sheet, [line]), many - 1, value[2][line]) for line in lines)


def stripped(sheet, some):
    """The sheet without some lines, made anew."""
    return Sheet(sheet.levels(), [line for line in sheet.lines() if line not in some])


def sums_plainly(sheet):
    """The sums, by all choices of orders of the levels up to each."""
    found = []
    for level in range(len(sheet)):
        told = {}
        for choice in clean_choices(sheet.cut(0, level)):
            told[tuple(choice[-1])] = told.get(tuple(choice[-1]), 0) + 1
        found.append(told)
    return found


def are_sums(sheet, value):
    if not is_row(value) or len(value) != len(sheet) or not all(isinstance(told, dict) for told in value):
        return False
    return [sorted(map(repr, told.items())) for told in value] == [
        sorted(map(repr, told.items())) for told in sums_plainly(sheet)]


def is_paper(sheet, claim, value):
    """Whether a value is a paper of a claim of a sheet."""
    kind = claim["claim"]
    if kind == "clean":
        return are_clean(sheet, value)
    if kind == "crossed":
        return is_change(sheet, value)
    if kind == "may be":
        return are_clean(sheet, value) and all(
            list(value[level]) == list(order) for level, order in claim["orders"].items())
    if kind == "never be":
        return is_change(widened_plainly(sheet, claim["orders"]), value)
    if kind == "kept":
        return are_clean(sheet, value) and all(has_pair(value, pair) for pair in claim["pairs"])
    if kind == "never kept":
        return is_fence(sheet, claim["pairs"], value)
    if kind == "count":
        return are_sums(sheet, value) and sum(value[-1].values()) == claim["number"]
    if kind == "struck":
        return is_tree(sheet, claim["number"], value)
    if kind == "helps":
        return are_clean(stripped(sheet, claim["lines"]), value)
    return is_change(Sheet(sheet.levels(), sheet.lines() + [claim["line"]]), value)
