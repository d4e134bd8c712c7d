"""Growers: sheets that have a clean drawing and grow at their top."""

from uplines.basics import is_list, is_name
from uplines.checks import is_new_line_of
from uplines.clean import has_clean, orders_in_clean
from uplines.errors import InvalidLine, InvalidLines, InvalidName, InvalidNodes, NameTaken, NothingToUndo, Refused
from uplines.nets import check_limit
from uplines.saving import Saved
from uplines.sheets import SMALL_LEVELS, SMALL_LINES, SMALL_NODES, Sheet
from uplines.walkers import change


def check_names(names):
    """Raise InvalidNodes unless this is a list of different names."""
    if not is_list(names):
        raise InvalidNodes(None)
    ahead = set()
    for position, name in enumerate(names):
        if not is_name(name) or name in ahead:
            raise InvalidNodes(position)
        ahead.add(name)


def fits_on_top(sheet, line):
    """Whether any value is a new line from the level below the top one to the top one."""
    return is_new_line_of(sheet, line) and sheet.level_of(line[1]) == len(sheet) - 1


def check_on_top(sheet, line):
    """Raise InvalidLine unless this is a new line from the level below the top one to the top one."""
    if not fits_on_top(sheet, line):
        raise InvalidLine(line)


def tied(sheet, line):
    """The sheet with a line more below its top level, which has a clean drawing again."""
    check_on_top(sheet, line)
    if not has_clean(sheet + line):
        raise Refused(line)
    check_limit("lines", len(sheet.gap(len(sheet) - 2)) + 1, SMALL_LINES)
    return sheet + line


def told_new(deed):
    """A deed with a list of its own."""
    if deed[0] == "lines":
        return ("lines", list(deed[1]))
    return deed


class Grower:
    """A sheet with a clean drawing, which grows at its top, deed by deed, and can be taken back."""

    def __init__(self, names=()):
        check_names(names)
        check_limit("nodes", len(names), SMALL_NODES)
        # Tuples of a deed and the sheet behind it. The list is replaced, never changed, so that it can be kept.
        self._past = [(None, Sheet([names]))]
        self._saved = None

    @property
    def sheet(self):
        """The sheet as it is now."""
        return self._past[-1][1]

    @property
    def top(self):
        """The sorted list of the nodes of the top level."""
        return self.sheet.levels()[-1]

    def level(self):
        """Put an empty level on top; its number is returned."""
        check_limit("levels", len(self.sheet) + 1, SMALL_LEVELS)
        self._put(("level",), self.sheet.with_level())
        return len(self.sheet) - 1

    def node(self, name):
        """Put a node on the top level."""
        if not is_name(name):
            raise InvalidName(name)
        if name in self.sheet:
            raise NameTaken(name)
        check_limit("nodes", len(self.top) + 1, SMALL_NODES)
        self._put(("node", name), self.sheet.with_node(len(self.sheet) - 1, name))

    def tie(self, low, high):
        """Put in a line from the level below the top one to the top one."""
        self._put(("line", low, high), tied(self.sheet, (low, high)))

    def may(self, low, high):
        """Whether a line could be put in, told for any values."""
        line = (low, high)
        if not fits_on_top(self.sheet, line) or not has_clean(self.sheet + line):
            return False
        return len(self.sheet.gap(len(self.sheet) - 2)) < SMALL_LINES

    def why_not(self, low, high):
        """A change of the sheet with a line, None if the line is not refused."""
        line = (low, high)
        check_on_top(self.sheet, line)
        return change(self.sheet + line)

    def orders(self):
        """The sorted list of the orders of the top level in clean drawings."""
        return orders_in_clean(self.sheet, len(self.sheet) - 1)

    def is_as_good(self, other):
        """Whether this one has the same nodes on top as another one, and each of its orders of these."""
        orders = self.orders()
        return self.top == other.top and all([order in orders for order in other.orders()])

    def undo(self):
        """Take back the last deed."""
        if len(self) == 0:
            raise NothingToUndo()
        self._past = self._past[:-1]

    def log(self):
        """The list of the deeds that were not taken back."""
        return [told_new(deed) for deed, _ in self._past[1:]]

    def copy(self):
        """A grower with the same sheet and log that goes on by itself."""
        made = Grower()
        made._past = self._past
        return made

    def tried(self, action):
        """What an action returns for the grower, which is as it was behind it."""
        past = self._past
        try:
            return action(self)
        finally:
            self._past = past

    def __call__(self, lines):
        if not is_list(lines):
            raise InvalidLines(None)
        sheet = self.sheet
        for line in lines:
            sheet = tied(sheet, line)
        self._put(("lines", list(lines)), sheet)
        return len(lines)

    def __iadd__(self, other):
        sheet = tied(self.sheet, other)
        low, high = other
        self._put(("line", low, high), sheet)
        return self

    def __len__(self):
        return len(self._past[1:])

    def __contains__(self, x):
        return x in self.sheet

    def __eq__(self, other):
        return isinstance(other, Grower) and self.sheet == other.sheet and self.log() == other.log()

    def __enter__(self):
        self._saved = Saved(self._past, self._saved)
        return self

    def __exit__(self, kind, value, trace):
        saved = self._saved
        if kind is not None:
            self._past = saved.past
        self._saved = saved.outer

    def _put(self, deed, sheet):
        """Go on with the sheet behind a deed."""
        self._past = [*self._past, (deed, sheet)]
