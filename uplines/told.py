"""Orders that are told ahead: whether they may be, what they settle, and what shows that they may not be."""

from uplines.basics import is_integer
from uplines.checks import check_level, check_order, check_orders, check_small, is_told_of
from uplines.choices import Choices, first_drawing, free_rows, rows_with
from uplines.errors import InvalidLevel, InvalidOrders, NothingClean, OtherSheets
from uplines.walkers import change, is_change
from uplines.widening import widened_by


def widened(sheet, orders):
    """The sheet widened by told orders."""
    check_orders(sheet, orders)
    return widened_by(sheet, orders)


def bar(sheet, orders):
    """A change of the widened sheet, which shows that told orders may not be; None if there is none."""
    return change(widened(sheet, orders))


def is_bar(sheet, orders, value):
    """Whether any value is a bar of told orders."""
    return is_change(widened(sheet, orders), value)


def may_be(sheet, orders):
    """Whether some clean drawing has all told orders."""
    return first_with(sheet, orders) is not None


def first_with(sheet, orders):
    """The first clean drawing with told orders, None if there is none."""
    check_orders(sheet, orders)
    check_small(sheet)
    return first_drawing(sheet, rows_with(sheet, orders))


def settled(sheet, orders):
    """The ascending list of the levels that told orders settle."""
    return list(settled_orders(sheet, orders))


def orders_of(sheet, level):
    """The sorted list of the orders that a level has in clean drawings."""
    check_level(sheet, level)
    check_small(sheet)
    return [list(order) for order in Choices(sheet, free_rows(sheet)).by_level()[level]]


def orders_beside(sheet, level, order, other):
    """The sorted list of the orders of another level in clean drawings that have this order of a level."""
    check_level(sheet, level)
    check_order(sheet, level, order)
    check_level(sheet, other)
    check_small(sheet)
    choices = Choices(sheet, rows_with(sheet, {level: order}))
    return [list(beside) for beside in choices.by_level()[other]]


def are_free(sheet, one, other):
    """Whether each order of a level can be had beside each of another level."""
    check_level(sheet, one)
    check_level(sheet, other)
    check_small(sheet)
    low, high = sorted([one, other])
    choices = Choices(sheet, free_rows(sheet))
    beside = choices.reach(low, high)
    # Each order of the higher level is beside some order of the lower one, so free ones have the same beside them.
    return len({beside[order] for order in choices.by_level()[low]}) <= 1


def settled_orders(sheet, orders):
    """The dict from the levels that told orders settle to their orders, sorted."""
    check_orders(sheet, orders)
    check_small(sheet)
    choices = Choices(sheet, rows_with(sheet, orders))
    if choices.how_many() == 0:
        raise NothingClean()
    return {level: found[0] for level, found in enumerate(choices.by_level()) if len(found) == 1}


class Told:
    """Orders that are told of some levels of a small sheet. It never changes."""

    def __init__(self, sheet, orders=None):
        told = {} if orders is None else orders
        check_orders(sheet, told)
        check_small(sheet)
        self._sheet = sheet
        self._told = {level: list(told[level]) for level in sorted(told)}

    @property
    def sheet(self):
        """The sheet of whose levels orders are told."""
        return self._sheet

    def levels(self):
        """The sorted list of the told levels."""
        return list(self._told)

    def orders(self):
        """The dict from the told levels to their orders."""
        return {level: list(order) for level, order in self._told.items()}

    def is_within(self, other):
        """Whether another one of the same sheet tells each order that this one tells."""
        self._check_same(other.sheet)
        return all([level in other and other[level] == order for level, order in self._told.items()])

    def may_be(self):
        """Whether some clean drawing has these orders."""
        return may_be(self._sheet, self._told)

    def settle(self):
        """The one that tells the orders of all levels that this one settles."""
        return Told(self._sheet, settled_orders(self._sheet, self._told))

    def __call__(self, drawing):
        self._check_same(drawing.sheet)
        return all([drawing[level] == order for level, order in self._told.items()])

    def __getitem__(self, at):
        if at not in self:
            raise InvalidLevel(at)
        return list(self._told[at])

    def __iter__(self):
        raise TypeError("told orders are not iterated over")

    def __len__(self):
        return len(self._told)

    def __contains__(self, x):
        return is_integer(x) and x in self._told

    def __eq__(self, other):
        return isinstance(other, Told) and self._sheet == other._sheet and self._told == other._told

    def __repr__(self):
        return f"Told({self._told!r})"

    def __add__(self, other):
        if not isinstance(other, tuple) or len(other) != 2:
            raise InvalidOrders(other)
        level, order = other
        # What can be a key at all is asked by the level alone.
        if not is_integer(level) or not is_told_of(self._sheet, {level: order}):
            raise InvalidOrders(other)
        return Told(self._sheet, {**self._told, level: order})

    def __radd__(self, other):
        return self + other

    def __sub__(self, other):
        if other not in self:
            raise InvalidLevel(other)
        return Told(self._sheet, {level: order for level, order in self._told.items() if level != other})

    def __invert__(self):
        return Told(self._sheet, {level: order[::-1] for level, order in self._told.items()})

    def __or__(self, other):
        self._check_same(other.sheet)
        unlike = [level for level, order in self._told.items() if level in other and other[level] != order]
        if len(unlike) > 0:
            raise InvalidLevel(unlike[0])
        return Told(self._sheet, {**self._told, **other._told})

    def _check_same(self, sheet):
        """Raise OtherSheets unless the other sheet is an equal one."""
        if self._sheet != sheet:
            raise OtherSheets(self._sheet, sheet)
