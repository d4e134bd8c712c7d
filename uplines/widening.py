"""The levels and lines of a sheet that is widened, so that its clean drawings keep told orders."""

from uplines.sheets import Sheet


def unused_names(sheet, many):
    """The least numbers from 1 on, in decimal, that are no nodes of the sheet: so many."""
    found = []
    number = 1
    while len(found) < many:
        if str(number) not in sheet:
            found.append(str(number))
        number = number + 1
    return found


def lines_above(sheet, level):
    """The sorted list of the lines from a level up, none from the top level."""
    if level == len(sheet) - 1:
        return []
    return sheet.gap(level)


def lines_by_way_of(lines, through):
    """Two lines for each of these, by way of its through node."""
    return [half for (low, high), node in zip(lines, through) for half in [(low, node), (node, high)]]


def lines_to_between(row, between):
    """A line to each between node from both neighbours in the row between which it stands."""
    return [line for at, node in enumerate(between) for line in [(row[at], node), (row[at + 1], node)]]


def widened_by(sheet, orders):
    """The sheet widened by told orders that are valid."""
    told = sorted(orders)
    many = sum([len(lines_above(sheet, level)) + len(orders[level]) for level in told])
    names = unused_names(sheet, len(sheet) + len(told) + many)
    spine = names[:len(sheet) + len(told)]
    rest = names[len(spine):]
    levels = []
    lines = list(zip(spine, spine[1:]))
    for level in range(len(sheet)):
        row = [spine[len(levels)]]
        levels.append(row + sheet.levels()[level])
        above = lines_above(sheet, level)
        if level not in orders:
            lines.extend(above)
        else:
            row.extend(list(orders[level]))
            through = rest[:len(above)]
            between = rest[len(above):len(above) + len(row) - 1]
            rest = rest[len(through) + len(between):]
            levels.append([spine[len(levels)], *through, *between])
            lines.extend(lines_by_way_of(above, through))
            lines.extend(lines_to_between(row, between))
    return Sheet(levels, lines)
