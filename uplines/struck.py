"""Lines that are struck so that a clean drawing is left: few enough, and what shows that fewer do not help."""

from uplines.basics import is_list
from uplines.checks import check_unlike_lines, check_up_to, is_line_of
from uplines.clean import has_clean
from uplines.errors import InvalidLine, OtherSheets, UnknownLine
from uplines.nets import check_limit
from uplines.sheets import Sheet
from uplines.striking import helping_lists, narrow_among, tree_along
from uplines.walkers import is_change, lines_of
from uplines.ways import gaps_of

MOST_SEARCHED = 24
MOST_STRUCK = 3
MOST_AGAINST = 2


def helps(sheet, some):
    """Whether the sheet without some lines has a clean drawing."""
    return has_clean(without(sheet, some))


def without(sheet, some):
    """The sheet without some lines."""
    check_unlike_lines(sheet, some)
    return Sheet(sheet.levels(), [line for line in sheet.lines() if line not in some])


def is_narrow(sheet, some):
    """Whether some lines help, and no part of them does."""
    if not helps(sheet, some):
        return False
    # More lines help no less, so the parts with one line less are enough.
    return not any([helps(sheet, [line for line in some if line != kept]) for kept in some])


def fewest(sheet):
    """How many lines a least list has, None if more than three are wanted."""
    lists = least_lists(sheet)
    if len(lists) == 0:
        return None
    return len(lists[0])


def least_lists(sheet):
    """The sorted list of all least lists, each sorted; an empty one if more than three lines are wanted."""
    lists = narrow_lists(sheet, MOST_STRUCK)
    least = min([len(some) for some in lists], default=0)
    return [some for some in lists if len(some) == least]


def narrow_lists(sheet, most):
    """The sorted list of all narrow lists of at most so many lines, each sorted."""
    check_up_to(most, MOST_STRUCK)
    check_searched(sheet)
    return narrow_among(helping_lists(gaps_of(sheet), most))


def surely_struck(sheet):
    """The sorted list of the lines in each least list, None if more than three lines are wanted."""
    lists = least_lists(sheet)
    if len(lists) == 0:
        return None
    return [line for line in sheet.lines() if all([line in some for some in lists])]


def may_be_struck(sheet):
    """The sorted list of the lines in some least list, None if more than three lines are wanted."""
    lists = least_lists(sheet)
    if len(lists) == 0:
        return None
    return [line for line in sheet.lines() if any([line in some for some in lists])]


def tree_against(sheet, many):
    """A tree that shows that no list of so many lines helps, None if at most so many help."""
    check_up_to(many, MOST_AGAINST)
    check_searched(sheet)
    return tree_along(gaps_of(sheet), many)


def is_tree_against(sheet, many, value):
    """Whether any value is a tree that shows that no list of so many lines helps."""
    check_up_to(many, MOST_AGAINST)
    check_searched(sheet)
    return is_tree(sheet, many, value)


def are_apart(sheet, value):
    """Whether any value is a list of changes of the sheet, perhaps none, of which no two have a line in common."""
    if not is_list(value) or not all([is_change(sheet, walk) for walk in value]):
        return False
    lines = [line for walk in value for line in lines_of(sheet, walk)]
    return len(set(lines)) == len(lines)


def check_searched(sheet):
    """Raise TooMany if the sheet has more lines than are searched."""
    check_limit("lines", len(sheet.lines()), MOST_SEARCHED)


def is_tree(sheet, many, value):
    """Whether any value is a tree against so many lines, these being a number that may be asked for."""
    if not isinstance(value, tuple) or len(value) != (2 if many == 0 else 3):
        return False
    if value[0] != ("change" if many == 0 else "strike") or not is_change(sheet, value[1]):
        return False
    if many == 0:
        return True
    lines = lines_of(sheet, value[1])
    trees = value[2]
    if not isinstance(trees, dict) or len(trees) != len(lines) or not all([line in trees for line in lines]):
        return False
    return all([is_tree(sheet - line, many - 1, trees[line]) for line in lines])


class Strike:
    """Some lines of a sheet, to be struck. It never changes."""

    def __init__(self, sheet, *some):
        check_unlike_lines(sheet, some)
        self._sheet = sheet
        self._lines = sorted(some)

    @classmethod
    def least(cls, sheet):
        """That of the first least list, None if more than three lines are wanted."""
        lists = least_lists(sheet)
        if len(lists) == 0:
            return None
        lines = lists[0]
        return cls(sheet, *lines)

    @property
    def sheet(self):
        """The sheet with the lines."""
        return self._sheet

    @property
    def rest(self):
        """The sheet without the lines."""
        return without(self._sheet, self._lines)

    @property
    def does_help(self):
        """Whether the sheet without the lines has a clean drawing."""
        return helps(self._sheet, self._lines)

    def lines(self):
        """The sorted list of the lines."""
        return list(self._lines)

    def is_within(self, other):
        """Whether each of these lines is one of another one's, of the same sheet."""
        self._check_same(other)
        return all([line in other for line in self._lines])

    def __len__(self):
        return len(self._lines)

    def __contains__(self, x):
        return x in self._lines

    def __iter__(self):
        return iter(self._lines)

    def __eq__(self, other):
        return isinstance(other, Strike) and self._sheet == other._sheet and self._lines == other._lines

    def __repr__(self):
        return f"Strike({self._lines!r})"

    def __add__(self, other):
        if not is_line_of(self._sheet, other):
            raise InvalidLine(other)
        return self._with_lines([other])

    def __radd__(self, other):
        return self + other

    def __sub__(self, other):
        if other not in self:
            raise UnknownLine(other)
        lines = [line for line in self._lines if line != other]
        return Strike(self._sheet, *lines)

    def __or__(self, other):
        self._check_same(other)
        return self._with_lines(other._lines)

    def __and__(self, other):
        self._check_same(other)
        lines = [line for line in self._lines if line in other]
        return Strike(self._sheet, *lines)

    def _check_same(self, other):
        """Raise OtherSheets unless the other one is of an equal sheet."""
        if self._sheet != other.sheet:
            raise OtherSheets(self._sheet, other.sheet)

    def _with_lines(self, more):
        """The one with more lines, those that it has already among them."""
        lines = self._lines + [line for line in more if line not in self._lines]
        return Strike(self._sheet, *lines)
