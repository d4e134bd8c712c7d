"""Growers that were led to sheets, and all that can be told of one."""

from plainly import clean_choices, drawn_samples, random_sheet
from uplines.growing import Grower


def grown(sheet):
    """A grower that was led to a sheet with a clean drawing."""
    grower = Grower(sheet.level(0))
    for number in range(1, len(sheet)):
        grower.level()
        for name in sheet.level(number):
            grower.node(name)
        grower(sheet.gap(number - 1))
    return grower


def square():
    """Two levels of two nodes with three of the lines between them."""
    grower = Grower(["a", "b"])
    grower.level(), grower.node("c"), grower.node("d")
    grower([("a", "c"), ("a", "d"), ("b", "d")])
    return grower


def plenty():
    found = [sheet for sheet, _ in drawn_samples(40)]
    return found + [told for told in (random_sheet(seed, 4, 3, 3) for seed in range(6)) if clean_choices(told)]


def state(grower):
    return [repr(grower.sheet), grower.log(), len(grower), grower.top]
