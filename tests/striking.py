"""Struck lines by plain means: all choices of lines, each tried against all choices of orders."""

import itertools
import random

from checking import all_lines, grid
from plainly import crossing_lines, every_choice, random_sheet
from uplines.sheets import Sheet


def square():
    return Sheet([["a", "b"], ["c", "d"]], [("a", "c"), ("a", "d"), ("b", "c"), ("b", "d")])


def wide():
    return Sheet([["a", "b"], ["c", "d", "e"]], all_lines([["a", "b"], ["c", "d", "e"]]))


def three():
    """Just three lines have to be struck."""
    levels = [["a", "b", "c"], ["x", "y", "z"]]
    return Sheet(levels, [line for line in all_lines(levels) if line != ("b", "y")])


def four():
    """More than three lines have to be struck."""
    levels = [["a", "b", "c"], ["x", "y", "z"]]
    return Sheet(levels, all_lines(levels))


def uneven():
    """One line less is enough, but there are lists of more lines of which each is wanted."""
    return Sheet([["a0", "a1", "a2"], ["b0", "b1", "b2", "b3"]], [
        ("a0", "b2"), ("a0", "b3"), ("a1", "b0"), ("a1", "b1"), ("a1", "b3"), ("a2", "b0"), ("a2", "b3")])


def mixed():
    """Two lines are enough, and one of these may stand among three that are all wanted."""
    return Sheet([["a0", "a1", "a2"], ["b0", "b1", "b2", "b3"]], [
        ("a0", "b1"), ("a0", "b2"), ("a0", "b3"), ("a1", "b1"), ("a1", "b2"), ("a1", "b3"), ("a2", "b0"), ("a2", "b2")])


def sure():
    """The line from a2 to b0 is in each least list."""
    return Sheet([["a0", "a1", "a2"], ["b0", "b1", "b2"], ["c0", "c1"]], [
        ("a0", "b0"), ("a0", "b2"), ("a1", "b2"), ("a2", "b0"), ("a2", "b1"), ("a2", "b2"), ("b0", "c1"),
        ("b1", "c0"), ("b2", "c0"), ("b2", "c1")])


def free():
    return Sheet([["a", "b"], [], ["c"]])


def few_lines():
    """Sheets with few lines, eight at most but for one, clean and crossed, of two and three levels."""
    found = [square(), wide(), three(), uneven(), mixed(), sure(), free()]
    found += [Sheet([[]]), Sheet([["a"]]), Sheet.chain("a", "b", "c")]
    for seed in range(60):
        told = random_sheet(seed, 2 + seed % 2, 3, 5 + seed % 5)
        lines = told.lines()
        random.Random(seed).shuffle(lines)
        found.append(Sheet(told.levels(), lines[:8]))
    return found


class Plainly:
    """Which lists of lines help, by the crossings of all choices of orders."""

    def __init__(self, sheet):
        self.lines = sheet.lines()
        self.crossings = [crossing_lines(sheet, choice) for choice in every_choice(sheet)]
        self.helping = [set(some) for many in range(len(self.lines) + 1)
                        for some in itertools.combinations(self.lines, many) if self.helps(some)]

    def helps(self, some):
        """Whether each crossing of some choice of orders has a struck line."""
        return any(all(line in some or other in some for line, other in found) for found in self.crossings)

    def is_narrow(self, some):
        return set(some) in self.helping and not any(part < set(some) for part in self.helping)

    def narrow(self, most):
        return sorted(sorted(some) for some in self.helping if len(some) <= most and self.is_narrow(some))

    def least(self):
        """All least lists, also with more than three lines."""
        fewest = min(map(len, self.helping))
        return sorted(sorted(some) for some in self.helping if len(some) == fewest)


def many_lines(number):
    """A sheet of two levels of five nodes with so many of all lines."""
    levels = grid(2, 5)
    return Sheet(levels, all_lines(levels)[:number])


def many_clean_lines(number):
    """A sheet of twelve levels with so many lines, and a clean drawing."""
    levels = grid(12, 3)
    lines = [(low, high) for lows, highs in zip(levels, levels[1:]) for low, high in zip(lows, highs)]
    return Sheet(levels, lines[:number])


def apart(many):
    """So many squares side by side, each with a change of its own."""
    levels = [[f"{letter}{at}" for at in range(many) for letter in letters] for letters in ("ab", "cd")]
    return Sheet(levels, [(f"{low}{at}", f"{high}{at}") for at in range(many) for low in "ab" for high in "cd"])
