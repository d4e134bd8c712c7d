"""Claims of each kind about sheets, true ones and others, told by plain means."""

from plainly import clean_choices, having, keeping, lists_of_pairs, plain_text, random_sheet, samples, tellings
from striking import Plainly, few_lines, many_lines, square, three, wide
from uplines.sheets import Sheet


def claim_of(kind, sheet, **part):
    return {"claim": kind, "sheet": plain_text(sheet), **part}


def claims_about(sheet):
    """Claims about a sheet, each with whether it is true."""
    choices = clean_choices(sheet)
    found = [(claim_of("clean", sheet), bool(choices)), (claim_of("crossed", sheet), not choices)]
    for orders in tellings(sheet, 7):
        may = bool(having(choices, orders))
        found.append((claim_of("may be", sheet, orders=orders), may))
        found.append((claim_of("never be", sheet, orders=orders), not may))
    for pairs in lists_of_pairs(sheet)[::4]:
        kept = bool(keeping(choices, pairs))
        found += [(claim_of("kept", sheet, pairs=pairs), kept), (claim_of("never kept", sheet, pairs=pairs), not kept)]
    for number in (0, 1, 2, len(choices), len(choices) + 1):
        found.append((claim_of("count", sheet, number=number), number == len(choices)))
    for low, high in [(low, high) for names, more in zip(sheet.levels(), sheet.levels()[1:])
                      for low in names for high in more if (low, high) not in sheet][::2]:
        told = Sheet(sheet.levels(), sheet.lines() + [(low, high)])
        found.append((claim_of("refused", sheet, line=(low, high)), not clean_choices(told)))
    return found


def claims_of_lines(sheet):
    """Claims about a sheet with few lines that speak of struck lines."""
    plain = Plainly(sheet)
    fewest = len(plain.least()[0])
    found = [(claim_of("struck", sheet, number=number), fewest > number) for number in range(3)]
    lines = sheet.lines()
    for some in ([], lines, lines[:1], lines[::2], lines[::-3], lines[1:3][::-1]):
        found.append((claim_of("helps", sheet, lines=some), plain.helps(some)))
    return found


def plenty():
    """Claims of each kind, each with whether it is true."""
    found = []
    for sheet in [*samples(20), random_sheet(2, 4, 2, 6)]:
        found += claims_about(sheet)
    for sheet in few_lines()[:30]:
        found += claims_of_lines(sheet)
    return found


def few():
    """A claim of each kind that is true."""
    lower = Sheet([["a", "b"], ["c", "d"]], [("a", "c"), ("a", "d"), ("b", "d")])
    return [
        claim_of("clean", lower), claim_of("crossed", square()),
        claim_of("may be", lower, orders={1: ["d", "c"], 0: ["b", "a"]}),
        claim_of("never be", lower, orders={0: ["a", "b"], 1: ["d", "c"]}),
        claim_of("kept", lower, pairs=[("b", "a")]), claim_of("never kept", lower, pairs=[("b", "a"), ("c", "d")]),
        claim_of("count", lower, number=2), claim_of("struck", wide(), number=1),
        claim_of("helps", square(), lines=[("b", "d"), ("a", "c")]), claim_of("refused", lower, line=("b", "c")),
    ]


def large():
    """True claims about small sheets that are large, and sheets with lines put in that are not small."""
    return [
        claim_of("struck", many_lines(12), number=2), claim_of("refused", many_lines(12), line=("n00x04", "n01x04")),
        claim_of("count", Sheet([[]]), number=1), claim_of("never be", three(), orders={}),
    ]
