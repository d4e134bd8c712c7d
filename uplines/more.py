"""New lines of a sheet: which may come, which are refused, and which are foes of one another."""

from uplines.basics import is_list
from uplines.checks import check_new_line, check_small, is_new_line_of
from uplines.clean import check_clean_and_small, has_clean
from uplines.errors import InvalidLines
from uplines.walkers import change, is_change


def may_come(sheet, line):
    """Whether the sheet with a new line has a clean drawing."""
    return has_clean(with_new(sheet, line))


def refusal(sheet, line):
    """A change of the sheet with a new line, None if the line may come."""
    return change(with_new(sheet, line))


def is_refusal(sheet, line, value):
    """Whether any value is a change of the sheet with a new line."""
    return is_change(with_new(sheet, line), value)


def are_together(sheet, lines):
    """Whether the sheet with all of some new lines has a clean drawing."""
    check_new_lines(sheet, lines)
    return has_clean(sheet.joined(lines))


def new_lines(sheet):
    """The sorted list of all new lines of a small sheet."""
    check_small(sheet)
    levels = sheet.levels()
    return sorted([
        (low, high)
        for lows, highs in zip(levels, levels[1:]) for low in lows for high in highs if (low, high) not in sheet
    ])


def coming(sheet):
    """The sorted list of the new lines of a small sheet that may come."""
    return [line for line in new_lines(sheet) if has_clean(sheet + line)]


def refused(sheet):
    """The sorted list of the new lines of a small sheet that are refused."""
    return [line for line in new_lines(sheet) if not has_clean(sheet + line)]


def foes(sheet):
    """The sorted list of the tuples of two new lines of a small sheet that may come, but not both together."""
    lines = coming(sheet)
    return [
        (line, other)
        for at, line in enumerate(lines) for other in lines[at + 1:] if not has_clean(sheet.joined([line, other]))
    ]


def filled(sheet):
    """The small sheet with each new line that may come together with those put in ahead."""
    check_clean_and_small(sheet)
    full = sheet
    for line in new_lines(sheet):
        if has_clean(full + line):
            full = full + line
    return full


def with_new(sheet, line):
    """The sheet with a new line."""
    check_new_line(sheet, line)
    return sheet + line


def check_new_lines(sheet, lines):
    """Raise InvalidLines unless this is a list of unlike new lines of the sheet."""
    if not is_list(lines):
        raise InvalidLines(None)
    ahead = set()
    for position, line in enumerate(lines):
        if not is_new_line_of(sheet, line) or line in ahead:
            raise InvalidLines(position)
        ahead.add(line)
