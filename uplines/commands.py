"""Commands of a desk: their forms, what they do to a sheet, and what they answer of it."""

from uplines.basics import is_name
from uplines.checks import check_node
from uplines.clean import first_clean, has_clean
from uplines.counts import how_many
from uplines.errors import NameTaken
from uplines.sheets import Sheet
from uplines.struck import fewest
from uplines.sure import sure_word
from uplines.told import orders_of
from uplines.walkers import change

# What stands behind each word, N for a name and L for a level; behind "level" stand any names, perhaps none.
FORMS = {
    "node": "LN", "line": "NN", "strike": "NN", "undo": "", "clean": "", "far": "", "many": "", "first": "",
    "orders": "L", "sure": "NNNN", "fewest": "",
}
CHANGING = ("level", "node", "line", "strike")
DIGITS = "0123456789"


def is_form(words):
    """Whether words are a command by its form."""
    word, *rest = words
    if word == "level":
        return all([is_name(name) for name in rest])
    if word not in FORMS or len(rest) != len(FORMS[word]):
        return False
    return all([is_name(told) if sign == "N" else is_number(told) for sign, told in zip(FORMS[word], rest)])


def is_number(word):
    """Whether a word is a number of at most two digits, without needless zeros."""
    return 1 <= len(word) <= 2 and all([sign in DIGITS for sign in word]) and str(int(word)) == word


def does_change(word):
    """Whether the commands that begin with a word change the sheet."""
    return word in CHANGING


def changed(sheet, word, rest):
    """The sheet behind a command that changes it."""
    if word == "level":
        return with_level_of(sheet, rest)
    if word == "node":
        return sheet.with_node(int(rest[0]), rest[1])
    check_nodes(sheet, rest)
    line = (rest[0], rest[1])
    return sheet + line if word == "line" else sheet - line


def with_level_of(sheet, names):
    """The sheet with a level of these nodes on top."""
    for position, name in enumerate(names):
        if name in sheet or name in names[:position]:
            raise NameTaken(name)
    return Sheet(sheet.levels() + [names], sheet.lines())


def check_nodes(sheet, names):
    """Raise UnknownNode with the first of the names that is no node of the sheet."""
    for name in names:
        check_node(sheet, name)


def answer_to(sheet, word, rest):
    """The answer to a command that asks of the sheet."""
    if word == "clean":
        return "yes" if has_clean(sheet) else "no"
    if word == "far":
        walk = change(sheet)
        return "none" if walk is None else str(len(walk))
    if word == "many":
        return str(how_many(sheet))
    if word == "first":
        drawing = first_clean(sheet)
        return written_or_none([] if drawing is None else drawing.orders())
    if word == "orders":
        return written_or_none(orders_of(sheet, int(rest[0])))
    if word == "sure":
        check_nodes(sheet, rest)
        return sure_word(sheet, (rest[0], rest[1]), (rest[2], rest[3]))
    many = fewest(sheet)
    return "more" if many is None else str(many)


def written_or_none(orders):
    """Orders as an answer, "none" if there are none."""
    if len(orders) == 0:
        return "none"
    return " ".join([",".join(order) if len(order) > 0 else "-" for order in orders])
