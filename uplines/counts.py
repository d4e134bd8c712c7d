"""All clean drawings of a small sheet: how many there are, and each by its number."""

from uplines.basics import is_integer
from uplines.checks import check_count, check_orders, check_pairs, check_small
from uplines.choices import Choices, free_rows, rows_keeping, rows_with
from uplines.drawings import Drawing
from uplines.errors import InvalidDrawing, InvalidNumber


def how_many(sheet):
    """How many clean drawings there are."""
    check_small(sheet)
    return Choices(sheet, free_rows(sheet)).how_many()


def drawings(sheet):
    """All clean drawings by their numbers, one after the other."""
    check_small(sheet)
    choices = Choices(sheet, free_rows(sheet))
    for number in range(choices.how_many()):
        yield Drawing(sheet, choices.at(number))


def drawing_at(sheet, number):
    """The clean drawing with a number."""
    check_count(number)
    check_small(sheet)
    choices = Choices(sheet, free_rows(sheet))
    if number >= choices.how_many():
        raise InvalidNumber(number)
    return Drawing(sheet, choices.at(number))


def number_of(sheet, drawing):
    """The number of a clean drawing."""
    check_clean(sheet, drawing)
    check_small(sheet)
    return Choices(sheet, free_rows(sheet)).number_of(list(drawing))


def count_with(sheet, orders):
    """How many clean drawings have all told orders."""
    check_orders(sheet, orders)
    check_small(sheet)
    return Choices(sheet, rows_with(sheet, orders)).how_many()


def count_pairs(sheet, pairs):
    """How many clean drawings have all told pairs."""
    check_pairs(sheet, pairs)
    check_small(sheet)
    return Choices(sheet, rows_keeping(sheet, pairs)).how_many()


def is_clean_of(sheet, value):
    """Whether any value is a clean drawing of an equal sheet."""
    return isinstance(value, Drawing) and value.sheet == sheet and value.is_clean


def check_clean(sheet, drawing):
    """Raise InvalidDrawing unless this is a clean drawing of an equal sheet."""
    if not is_clean_of(sheet, drawing):
        raise InvalidDrawing(drawing)


class Gallery:
    """All clean drawings of a small sheet, of which each is made when it is asked for. It never changes."""

    def __init__(self, sheet):
        check_small(sheet)
        self._sheet = sheet
        self._choices = Choices(sheet, free_rows(sheet))

    @property
    def sheet(self):
        """The sheet that is drawn."""
        return self._sheet

    def how_many(self):
        """How many clean drawings there are."""
        return self._choices.how_many()

    def index(self, drawing):
        """The number of a clean drawing."""
        check_clean(self._sheet, drawing)
        return self._choices.number_of(list(drawing))

    def __getitem__(self, at):
        many = self._choices.how_many()
        if not is_integer(at) or not -many <= at < many:
            raise InvalidNumber(at)
        return Drawing(self._sheet, self._choices.at(at if at >= 0 else many + at))

    def __iter__(self):
        raise TypeError("a gallery is not iterated over")

    def __contains__(self, x):
        return is_clean_of(self._sheet, x)

    def __eq__(self, other):
        return isinstance(other, Gallery) and self._sheet == other._sheet
