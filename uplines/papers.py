"""The papers of claims by their kinds: how they are made, and how they are checked."""

from uplines.checks import are_orders_of
from uplines.clean import first_clean
from uplines.drawings import Drawing
from uplines.fences import drawing_with, fence, is_fence, keeps
from uplines.more import is_refusal, refusal
from uplines.struck import is_tree_against, tree_against, without
from uplines.sums import are_sums, sums_of, total_of
from uplines.told import bar, first_with, is_bar
from uplines.walkers import change, is_change


def shown_for(sheet, kind, part):
    """A paper of the claim of a kind, part being what it tells beside the sheet; None if it is not true."""
    if kind == "crossed":
        return change(sheet)
    if kind == "never be":
        return bar(sheet, part)
    if kind == "never kept":
        return fence(sheet, part)
    if kind == "count":
        sums = sums_of(sheet)
        return sums if total_of(sums) == part else None
    if kind == "struck":
        return tree_against(sheet, part)
    if kind == "refused":
        return refusal(sheet, part)
    drawing = drawing_for(sheet, kind, part)
    return None if drawing is None else drawing.orders()


def drawing_for(sheet, kind, part):
    """The first clean drawing that a claim of a kind wants, None if there is none."""
    if kind == "may be":
        return first_with(sheet, part)
    if kind == "kept":
        return drawing_with(sheet, part)
    if kind == "helps":
        return first_clean(without(sheet, part))
    return first_clean(sheet)


def is_shown_by(sheet, kind, part, value):
    """Whether any value is a paper of the claim of a kind, part being what it tells beside the sheet."""
    if kind == "crossed":
        return is_change(sheet, value)
    if kind == "never be":
        return is_bar(sheet, part, value)
    if kind == "never kept":
        return is_fence(sheet, part, value)
    if kind == "count":
        return are_sums(sheet, value) and total_of(value) == part
    if kind == "struck":
        return is_tree_against(sheet, part, value)
    if kind == "refused":
        return is_refusal(sheet, part, value)
    if kind == "helps":
        return are_clean_orders(without(sheet, part), value)
    return are_clean_orders(sheet, value) and are_wanted_orders(sheet, kind, part, value)


def are_clean_orders(sheet, value):
    """Whether any value is the list of the orders of a clean drawing."""
    return are_orders_of(sheet, value) and Drawing(sheet, value).is_clean


def are_wanted_orders(sheet, kind, part, orders):
    """Whether the orders of a drawing have the told orders, or keep the told pairs, of a claim of a kind."""
    if kind == "may be":
        return all([tuple(orders[level]) == tuple(order) for level, order in part.items()])
    return kind != "kept" or keeps(Drawing(sheet, orders), part)
