"""Texts of sheets and of drawings, and how they are read."""

from uplines.basics import is_name
from uplines.drawings import Drawing
from uplines.errors import InvalidText
from uplines.nets import fits_as_line, places_of
from uplines.sheets import Sheet


def text_of(sheet):
    """The text of a sheet."""
    rows = [["level", *names] for names in sheet.levels()] + [["line", low, high] for low, high in sheet.lines()]
    return written(rows)


def drawing_text(drawing):
    """The text of a drawing: that of its sheet, and its orders."""
    return text_of(drawing.sheet) + written([["order", *order] for order in drawing.orders()])


def read_sheet(text):
    """The sheet of a text."""
    rows = rows_of(text)
    levels, lines = read_levels_and_lines(rows)
    read = len(levels) + len(lines)
    if len(levels) == 0 or read < len(rows):
        raise InvalidText(read + 1)
    return Sheet(levels, lines)


def read_drawing(text):
    """The drawing of a text."""
    rows = rows_of(text)
    levels, lines = read_levels_and_lines(rows)
    read = len(levels) + len(lines)
    orders = read_orders(rows[read:], levels)
    read = read + len(orders)
    if len(levels) == 0 or len(orders) < len(levels) or read < len(rows):
        raise InvalidText(read + 1)
    return Drawing(Sheet(levels, lines), orders)


def written(rows):
    """The text of lines of words."""
    return "".join([" ".join(words) + "\n" for words in rows])


def rows_of(text):
    """The list of the lines of a text, as lists of words. A last line without a line feed is one of no words."""
    if not isinstance(text, str):
        raise InvalidText(1)
    rows = [row.split(" ") for row in text.split("\n")]
    # Behind the last line feed there is nothing, which is split into one empty word.
    return rows[:-1] if rows[-1] == [""] else [*rows[:-1], []]


def read_levels_and_lines(rows):
    """The levels and the lines that stand at the beginning, as far as they can stand there."""
    levels = read_levels(rows)
    return (levels, read_lines(rows[len(levels):], places_of(levels)))


def read_levels(rows):
    """The levels that stand at the beginning, as far as they can stand there."""
    levels = []
    ahead = {}
    for words in rows[:Sheet.MOST_LEVELS]:
        names = words[1:]
        if words[:1] != ["level"] or not are_sorted_names(names) or any([name in ahead for name in names]):
            return levels
        levels.append(names)
        for name in names:
            ahead[name] = True
    return levels


def are_sorted_names(words):
    """Whether words are unlike names, sorted, and not too many for a level."""
    if len(words) > Sheet.MOST_NODES or not all([is_name(word) for word in words]):
        return False
    return words == sorted(set(words))


def read_lines(rows, places):
    """The lines that stand at the beginning, as far as they can stand there."""
    lines = []
    for words in rows[:Sheet.MOST_LINES]:
        line = tuple(words[1:])
        if words[:1] != ["line"] or not fits_as_line(line, places):
            return lines
        if len(lines) > 0 and line <= lines[-1]:
            return lines
        lines.append(line)
    return lines


def read_orders(rows, levels):
    """The orders that stand at the beginning, one for each level, as far as they can stand there."""
    orders = []
    for words, names in zip(rows, levels):
        if words[:1] != ["order"] or sorted(words[1:]) != names:
            return orders
        orders.append(words[1:])
    return orders
