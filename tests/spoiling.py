"""Values that are spoilt in one place."""

from checking import deep
from uplines.sheets import Sheet

ODD = [None, True, 0, -1, "", "zz", [], (), {}, [[]], (("zz", "zz"),), Sheet([["zz"]]), deep(30)]


def spoilt(value, odd=None):
    """The value with just one place changed, dropped, doubled or put in, for each place, also deep inside."""
    yield from ODD if odd is None else odd
    if isinstance(value, (list, tuple)):
        yield from spoilt_row(value, odd)
    if isinstance(value, dict):
        yield from spoilt_dict(value, odd)
    if type(value) is int:
        yield from [value + 1, value - 1, str(value), bool(value), [value]]
    if isinstance(value, str):
        yield from [value + "z", value[:-1], [value], value.upper()]


def spoilt_row(value, odd):
    kind = type(value)
    rows = list(value)
    for at in range(len(rows)):
        yield kind(rows[:at] + rows[at + 1:])
        yield kind(rows[:at] + rows[at:at + 1] * 2 + rows[at + 1:])
        yield kind(rows[:at] + rows[at + 1:at + 2] + rows[at:at + 1] + rows[at + 2:])
        for part in spoilt(rows[at], odd):
            yield kind(rows[:at] + [part] + rows[at + 1:])
    yield rows if kind is tuple else tuple(rows)
    yield from [kind(rows + [None]), kind([None] + rows), kind(rows[::-1]), {at: row for at, row in enumerate(rows)}]


def spoilt_dict(value, odd):
    for key in value:
        rest = {other: value[other] for other in value if other != key}
        yield rest
        for name in (None, True, 0, "zz", ("zz",), (key,), str(key)):
            yield {**rest, name: value[key]}
        for part in spoilt(value[key], odd):
            yield {**rest, key: part}
    yield {**value, "zz": None}
    yield from [list(value), list(value.items()), tuple(value.values())]


def told_as_tuples(value):
    """The value with each list, also inside others, told as a tuple."""
    if isinstance(value, (list, tuple)):
        return tuple(told_as_tuples(part) for part in value)
    if isinstance(value, dict):
        return {key: told_as_tuples(value[key]) for key in reversed(list(value))}
    return value
