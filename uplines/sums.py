"""The sums of a small sheet: how many choices of orders end with each order of each level."""

from uplines.basics import is_integer, is_list
from uplines.choices import fitting, free_rows


def sums_of(sheet):
    """The list with a dict for each level, from its orders to how many lists of orders up to it end with each."""
    rows = free_rows(sheet)
    sums = [{order: 1 for order in rows[0]}]
    for level, orders in enumerate(rows[1:]):
        sums.append(sums_above(sums[-1], fitting(sheet, level, list(sums[-1]), orders)))
    return sums


def sums_above(below, fits):
    """The sums of a level by those of the level below, and the orders that go together with each order of this."""
    found = {}
    for order, uppers in fits.items():
        for upper in uppers:
            found[upper] = found.get(upper, 0) + below[order]
    return {upper: found[upper] for upper in sorted(found)}


def total_of(sums):
    """The sum of the numbers of the last level."""
    return sum(list(sums[-1].values()))


def are_sums(sheet, value):
    """Whether any value is the list of the sums of a sheet."""
    if not is_list(value) or len(value) != len(sheet):
        return False
    return all([are_numbers(told, numbers) for told, numbers in zip(value, sums_of(sheet))])


def are_numbers(value, numbers):
    """Whether any value is a dict with just these keys and numbers."""
    if not isinstance(value, dict) or len(value) != len(numbers):
        return False
    return all([key in value and is_integer(value[key]) and value[key] == numbers[key] for key in numbers])
