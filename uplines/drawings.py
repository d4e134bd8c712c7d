"""Drawings: an order for each level of a sheet, and which lines cross in it."""

from uplines.basics import is_count
from uplines.checks import are_orders_of, check_level, check_node, check_order, is_pair_of
from uplines.errors import InvalidDrawing, InvalidNumber, InvalidPair, InvalidSheet
from uplines.sheets import Sheet


def do_cross(line, other, places):
    """Whether two lines of one gap cross, by the places of the nodes in the orders of their levels."""
    # Lines with a common end have no sequence there, so they never cross.
    if line[0] == other[0] or line[1] == other[1]:
        return False
    return (places[line[0]] < places[other[0]]) != (places[line[1]] < places[other[1]])


def crossings_among(lines, places):
    """The tuples of two of the sorted lines of a gap that cross, the lesser one first."""
    return [
        (line, other) for at, line in enumerate(lines) for other in lines[at + 1:] if do_cross(line, other, places)
    ]


class Drawing:
    """An order for each level of a sheet. It never changes."""

    def __init__(self, sheet, orders):
        if not isinstance(sheet, Sheet):
            raise InvalidSheet(sheet)
        if not are_orders_of(sheet, orders):
            raise InvalidDrawing(orders)
        self._sheet = sheet
        self._orders = [tuple(order) for order in orders]

    @classmethod
    def plain(cls, sheet):
        """The drawing with all levels sorted."""
        if not isinstance(sheet, Sheet):
            raise InvalidSheet(sheet)
        return cls(sheet, sheet.levels())

    @property
    def sheet(self):
        """The sheet that is drawn."""
        return self._sheet

    @property
    def is_clean(self):
        """Whether no two lines cross."""
        return len(self.crossings()) == 0

    def orders(self):
        """The list of the orders, from level 0 on."""
        return [list(order) for order in self._orders]

    def is_left(self, one, other):
        """Whether a node is left of another one of its level."""
        if not is_pair_of(self._sheet, (one, other)):
            raise InvalidPair((one, other))
        places = self._places_drawn()
        return places[one] < places[other]

    def crossings(self):
        """The sorted list of the tuples of two lines that cross, the lesser one first."""
        places = self._places_drawn()
        gaps = [self._sheet.gap(number) for number in range(len(self._sheet) - 1)]
        return sorted([crossing for lines in gaps for crossing in crossings_among(lines, places)])

    def crossings_at(self, node):
        """How many crossings have a line with this end."""
        check_node(self._sheet, node)
        return len([1 for line, other in self.crossings() if node in line or node in other])

    def turned(self):
        """The drawing with each order in the other sequence."""
        return Drawing(self._sheet, [order[::-1] for order in self._orders])

    def with_order(self, level, order):
        """The drawing with this order of a level."""
        check_level(self._sheet, level)
        check_order(self._sheet, level, order)
        return self._with(level, order)

    def swapped(self, level, position):
        """The drawing with the nodes at a position of a level and at the next one exchanged."""
        check_level(self._sheet, level)
        order = self._orders[level]
        if not is_count(position) or position + 1 >= len(order):
            raise InvalidNumber(position)
        return self._with(level, [*order[:position], order[position + 1], order[position], *order[position + 2:]])

    def __getitem__(self, at):
        check_level(self._sheet, at)
        return list(self._orders[at])

    def __iter__(self):
        return iter(self._orders)

    def __eq__(self, other):
        return isinstance(other, Drawing) and self._sheet == other._sheet and self._orders == other._orders

    def __repr__(self):
        return f"Drawing({self._sheet!r}, {self.orders()!r})"

    def __neg__(self):
        return self.turned()

    def __invert__(self):
        return Drawing(~self._sheet, self._orders[::-1])

    def __sub__(self, other):
        return Drawing(self._sheet - other, self._orders)

    def _places_drawn(self):
        """The dict from each node to its place in the order of its level."""
        return {node: at for order in self._orders for at, node in enumerate(order)}

    def _with(self, level, order):
        """The drawing with an order that fits on a level."""
        return Drawing(self._sheet, [*self._orders[:level], order, *self._orders[level + 1:]])
