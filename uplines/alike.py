"""Which pairs, and which orders, are had together in the clean drawings of a small sheet."""

from uplines.choices import Choices, free_rows, has_pairs, joined_bits
from uplines.ways import turned


def pairs_on(sheet, level):
    """The list of the pairs of a level."""
    names = sheet.levels()[level]
    return [(one, other) for one in names for other in names if one != other]


def pairs_alike(sheet):
    """The dict from each pair to the list of the pairs that each clean drawing has that has it, itself among them."""
    choices = Choices(sheet, free_rows(sheet))
    alike = {pair: [] for pair in sheet.pairs()}
    for high in range(len(sheet)):
        for low in range(high + 1):
            for pair, other in alike_on(sheet, choices, low, high):
                alike[pair].append(other)
                if low < high:
                    alike[other].append(pair)
    return alike


def alike_on(sheet, choices, low, high):
    """The list of the tuples of a pair of level low and one of level high that are surely alike."""
    orders = choices.by_level()[low]
    reach = choices.reach(low, high)
    against = {pair: choices.bits_with(high, turned(pair)) for pair in pairs_on(sheet, high)}
    found = []
    for pair in pairs_on(sheet, low):
        beside = joined_bits([reach[order] for order in orders if has_pairs(order, [pair])])
        found.extend([(pair, other) for other in against if (beside & against[other]) == 0])
    return found


def classes_alike(sheet):
    """The sorted list of the sure classes, but of two that are each other turned only the lesser one."""
    alike = pairs_alike(sheet)
    taken = {}
    found = []
    for start in alike:
        if start not in taken:
            members = sorted(alike[start])
            for pair in members:
                taken[pair] = True
                taken[turned(pair)] = True
            found.append(members)
    return found


def orders_beside_each(sheet, level, other):
    """The dict from each order of a level in clean drawings to the list of those of another level had with it."""
    choices = Choices(sheet, free_rows(sheet))
    low, high = sorted([level, other])
    beside = {}
    for lower, upper in choices.both(low, high):
        if level == low:
            beside.setdefault(lower, []).append(upper)
        else:
            beside.setdefault(upper, []).append(lower)
    return beside
