"""Choices of an order for each level of a small sheet in which no lines cross, gone through level by level."""

from uplines.drawings import Drawing


def all_orders(nodes):
    """The list of all orders of sorted nodes, as tuples, sorted."""
    if len(nodes) == 0:
        return [()]
    return [(first, *rest) for first in nodes for rest in all_orders([node for node in nodes if node != first])]


def free_rows(sheet):
    """For each level the list of all its orders."""
    return [all_orders(names) for names in sheet.levels()]


def rows_with(sheet, orders):
    """For each level the list of its orders, just the told one where one is told."""
    return [
        [tuple(orders[level])] if level in orders else all_orders(names)
        for level, names in enumerate(sheet.levels())
    ]


def has_pairs(order, pairs):
    """Whether an order has the first node of each of these pairs left of the second one, if it has them at all."""
    return all([order.index(one) < order.index(other) for one, other in pairs if one in order])


def rows_keeping(sheet, pairs):
    """For each level the list of its orders that keep the told pairs there."""
    # Pairs may be told over and over, so each is looked at once.
    told = list({pair: True for pair in pairs})
    return [[order for order in orders if has_pairs(order, told)] for orders in free_rows(sheet)]


def bits_of(nodes):
    """The dict from each pair of these nodes to a number with one bit of its own."""
    pairs = [(one, other) for one in nodes for other in nodes if one != other]
    return {pair: 1 << at for at, pair in enumerate(pairs)}


def held_by(order, bits):
    """The bits of all pairs that an order has."""
    return sum([bits[(one, other)] for at, one in enumerate(order) for other in order[at + 1:]])


def forced_by(order, lines, bits):
    """The bits of all pairs that the next level must have, if no lines are to cross above this order."""
    places = {node: at for at, node in enumerate(order)}
    forced = 0
    for low, high in lines:
        for other_low, other_high in lines:
            if places[low] < places[other_low] and high != other_high:
                forced = forced | bits[(high, other_high)]
    return forced


def fitting(sheet, level, orders, uppers):
    """The dict from each order of a level to those of the next level up that go together with it."""
    lines = sheet.gap(level)
    bits = bits_of(sheet.levels()[level + 1])
    held = {upper: held_by(upper, bits) for upper in uppers}
    # Many orders force the same, above a gap with few lines above all.
    known = {}
    found = {}
    for order in orders:
        forced = forced_by(order, lines, bits)
        if forced not in known:
            known[forced] = [upper for upper in uppers if (held[upper] & forced) == forced]
        found[order] = known[forced]
    return found


def reached_above(sheet, level, orders, uppers):
    """The sorted list of the orders of the next level up that go together with some of these."""
    reached = {}
    for fits in fitting(sheet, level, orders, uppers).values():
        for upper in fits:
            reached[upper] = True
    return sorted(reached)


def picked(many, orders, number):
    """The order that has the choice with this number, and the number that the choice has among those of the order."""
    for order in orders:
        if number < many[order]:
            return (order, number)
        number = number - many[order]
    return None


def joined_bits(numbers):
    """The number with all bits of these."""
    joined = 0
    for number in numbers:
        joined = joined | number
    return joined


class Choices:
    """All choices of an order for each level, out of sorted rows, in which no lines cross. It never changes.

    They are counted from the top level down, so that none has to be gone through.
    """

    def __init__(self, sheet, rows):
        many = {order: 1 for order in rows[-1]}
        counted = [many]
        fits = []
        for level in range(len(rows) - 2, -1, -1):
            found = fitting(sheet, level, rows[level], list(many))
            sums = {order: sum([many[upper] for upper in found[order]]) for order in found}
            many = {order: sums[order] for order in sums if sums[order] > 0}
            counted.append(many)
            fits.append(found)
        # For each level, how many choices for the levels above go on from each order that goes up.
        self._counted = counted[::-1]
        self._fits = fits[::-1]

    def how_many(self):
        """How many choices there are."""
        return sum(list(self._counted[0].values()))

    def at(self, number):
        """The orders of the choice with a number, in ascending order of the lists of the orders."""
        order, number = picked(self._counted[0], list(self._counted[0]), number)
        found = [order]
        for many, fits in zip(self._counted[1:], self._fits):
            order, number = picked(many, fits[order], number)
            found.append(order)
        return found

    def number_of(self, orders):
        """The number of a choice."""
        rows = [list(self._counted[0])] + [fits[order] for fits, order in zip(self._fits, orders)]
        return sum([
            many[order]
            for many, row, chosen in zip(self._counted, rows, orders) for order in row if order < chosen
        ])

    def by_level(self):
        """For each level the sorted list of the orders that it has in these choices."""
        found = [list(self._counted[0])]
        for fits in self._fits:
            reached = {upper: True for order in found[-1] for upper in fits[order]}
            found.append(sorted(reached))
        return found

    def bits_with(self, level, pair):
        """The bits of the orders of a level that have a pair, as reach tells them."""
        return sum([1 << at for at, order in enumerate(self._counted[level]) if has_pairs(order, [pair])])

    def both(self, low, high):
        """The list of all tuples of an order of level low and one of level high that can be had with it."""
        bits = self.reach(low, high)
        uppers = list(self._counted[high])
        return [
            (order, upper)
            for order in self.by_level()[low] for at, upper in enumerate(uppers) if ((bits[order] >> at) & 1) == 1
        ]

    def reach(self, low, high):
        """The dict from each order of level low to the bits of those of level high that can be had with it."""
        bits = {order: 1 << at for at, order in enumerate(self._counted[high])}
        for level in range(high - 1, low - 1, -1):
            fits = self._fits[level]
            bits = {order: joined_bits([bits[upper] for upper in fits[order]]) for order in self._counted[level]}
        return bits


def first_drawing(sheet, rows):
    """The first drawing of all choices out of these rows, None if there is none."""
    choices = Choices(sheet, rows)
    if choices.how_many() == 0:
        return None
    return Drawing(sheet, choices.at(0))
