"""Sheets just within the bounds of small ones, and just beyond them."""

from checking import all_lines, grid
from uplines.sheets import Sheet

LEVELS = {"what": "levels", "limit": 6}
NODES = {"what": "nodes", "limit": 5}
LINES = {"what": "lines", "limit": 12}


def within():
    """Small sheets, each at one of the bounds or at all."""
    levels = grid(6, 5)
    return [
        Sheet([["a"]] + [[]] * 5), Sheet([["e", "d", "c", "b", "a"]]), Sheet(levels),
        Sheet(grid(2, 5), all_lines(grid(2, 5))[:12]), Sheet(grid(2, 5), all_lines(grid(2, 5))[-12:]),
        Sheet(levels, [line for low in range(5) for line in all_lines(levels[low:low + 2])[::2][:12]]),
    ]


def beyond():
    """Sheets that are not small, each with the attributes of the error that says so."""
    nodes = ["a", "b", "c", "d", "e", "f"]
    low = grid(3, 5)
    lines = all_lines(low[:2])
    levels = [[f"{letter}{number}" for number in range(6)] for letter in "abcdefg"]
    return [
        (Sheet([["a"]] + [[]] * 6), LEVELS), (Sheet([[]] * 12), LEVELS), (Sheet([nodes]), NODES),
        (Sheet([["g"], [], nodes, []]), NODES), (Sheet(low, lines[:13]), LINES),
        (Sheet(low, all_lines(low[1:])[-13:]), LINES),
        (Sheet(levels, all_lines(levels[:2])), LEVELS), (Sheet(levels[:6], all_lines(levels[4:6])), NODES),
        (Sheet([*low, [], [], [], []], lines[:13]), LEVELS), (Sheet([*low, nodes], lines[:13]), NODES),
    ]
