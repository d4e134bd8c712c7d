"""What drawings and walks are, gone through plainly: all choices of all orders, all pairs of lines."""

import itertools
import random

from uplines.sheets import Sheet


def sheets_of_two_levels():
    """All sheets of two levels with up to three nodes on each, every third one of the largest."""
    for lows, highs in itertools.product(range(4), range(4)):
        levels = [["a", "b", "c"][:lows], ["x", "y", "z"][:highs]]
        lines = list(itertools.product(*levels))
        for bits in range(0, 2 ** len(lines), 3 if len(lines) == 9 else 1):
            yield Sheet(levels, [line for at, line in enumerate(lines) if bits >> at & 1])


def random_sheet(seed, levels, nodes, share):
    """A sheet with up to so many levels and nodes on each, and about so many of ten possible lines."""
    chance = random.Random(seed)
    names = [f"{letter}{number}" for letter in "abcdef" for number in range(6)]
    chance.shuffle(names)
    least = 0 if seed % 7 == 0 else 1
    told = [[names.pop() for _ in range(max(chance.randint(least, nodes), chance.randint(least, nodes)))]
            for _ in range(levels)]
    lines = [(low, high) for lows, highs in zip(told, told[1:]) for low in lows for high in highs]
    return Sheet(told, [line for line in lines if chance.randrange(10) < share])


def grown_sheet(seed, levels, nodes):
    """A sheet in which some pair of walkers can change places, but without any of the short ways to do so."""
    chance = random.Random(seed)
    told = [[f"n{level}x{node}" for node in range(nodes)] for level in range(levels)]
    lines = [(low, high) for lows, highs in zip(told, told[1:]) for low in lows for high in highs]
    chance.shuffle(lines)
    sheet = Sheet(told)
    for line in lines:
        steps = least_turning(sheet + line)
        if steps is None:
            sheet = sheet + line
        elif steps > 2:
            return sheet + line
    raise ValueError(seed)


def sheets_of_three_levels(many):
    """Sheets of three levels with up to three nodes on each, some with an empty level."""
    for seed in range(many):
        yield random_sheet(seed, 3, 3, 2 + seed % 6)


def samples(many=60):
    """Some sheets of each kind."""
    yield from [Sheet([[]]), Sheet([["a"]]), Sheet([["c", "a", "b"]]), Sheet([[], [], []])]
    yield from list(sheets_of_two_levels())[::23]
    yield from sheets_of_three_levels(many)


def every_choice(sheet):
    """All lists of orders of the sheet's levels, sorted."""
    orders = [[list(order) for order in itertools.permutations(names)] for names in sheet.levels()]
    return [list(choice) for choice in itertools.product(*orders)]


def crossing_lines(sheet, orders):
    """The sorted list of the tuples of two lines that cross, by looking at all of them."""
    places = {node: (level, at) for level, order in enumerate(orders) for at, node in enumerate(order)}
    found = []
    for (u, v), (w, x) in itertools.combinations(sorted(sheet.lines()), 2):
        if places[u][0] == places[w][0] and u != w and v != x:
            if (places[u] < places[w]) != (places[v] < places[x]):
                found.append(((u, v), (w, x)))
    return found


def clean_choices(sheet):
    """All lists of orders in which no two lines cross, sorted."""
    return [choice for choice in every_choice(sheet) if not crossing_lines(sheet, choice)]


def has_pair(choice, pair):
    """Whether the first node of a pair is left of the other one in a list of orders."""
    return any(order.index(pair[0]) < order.index(pair[1]) for order in choice if pair[0] in order)


def keeping(choices, pairs):
    """Those of some lists of orders that keep told pairs."""
    return [choice for choice in choices if all(has_pair(choice, pair) for pair in pairs)]


def having(choices, orders):
    """Those of some lists of orders that have told orders."""
    return [choice for choice in choices if all(choice[level] == list(order) for level, order in orders.items())]


def pairs_of(sheet):
    return [pair for names in sheet.levels() for pair in itertools.permutations(names, 2)]


def near_pairs(sheet):
    """The dict from each pair to the list of the pairs to which a step leads, by looking at all of them."""
    lines = set(sheet.lines())
    pairs = pairs_of(sheet)
    ways = {(one, other) for one, other in lines} | {(other, one) for one, other in lines}
    level = {node: number for number, names in enumerate(sheet.levels()) for node in names}
    return {
        start: [goal for goal in pairs if (start[0], goal[0]) in ways and (start[1], goal[1]) in ways
                and level[goal[0]] == level[goal[1]]]
        for start in pairs
    }


def distances(sheet, start, near=None):
    """The dict from each pair that can be reached to the number of steps, found round by round."""
    near = near or near_pairs(sheet)
    found = {start: 0}
    rounds = 0
    while rounds in found.values():
        for pair in [pair for pair in found if found[pair] == rounds]:
            for goal in near[pair]:
                found.setdefault(goal, rounds + 1)
        rounds += 1
    return found


def least_turning(sheet):
    """The least number of steps in which some pair comes to the same pair turned, None if none does."""
    near = near_pairs(sheet)
    far = [distances(sheet, pair, near).get(pair[::-1]) for pair in near]
    return min([steps for steps in far if steps is not None], default=None)


def is_walk_plainly(sheet, value):
    """Whether a list of pairs is a walk."""
    near = near_pairs(sheet)
    return len(value) > 0 and all(pair in near for pair in value) and all(
        goal in near[pair] for pair, goal in zip(value, value[1:]))


def tellings(sheet, every=1):
    """All dicts from some levels of a sheet to orders of these, or every so manieth of them."""
    told = [{}]
    for level, names in enumerate(sheet.levels()):
        orders = [list(order) for order in itertools.permutations(names)]
        told += [{**ahead, level: order} for ahead in told for order in orders]
    return told[::every]


def widened_plainly(sheet, orders):
    """The levels and the lines of a sheet widened by told orders, as the document tells it."""
    rows = [row for level in range(len(sheet)) for row in [("own", level), ("put in", level)]
            if row[0] == "own" or level in orders]
    names = (str(number) for number in itertools.count(1) if str(number) not in list(sheet))
    spine = {row: next(names) for row in rows}
    levels = {row: [spine[row]] + (sheet.level(row[1]) if row[0] == "own" else []) for row in rows}
    lines = [(spine[row], spine[above]) for row, above in zip(rows, rows[1:])]
    lines += [line for line in sheet.lines() if sheet.level_of(line[0]) not in orders]
    for level in sorted(orders):
        for low, high in [line for line in sheet.lines() if sheet.level_of(line[0]) == level]:
            through = next(names)
            levels["put in", level].append(through)
            lines += [(low, through), (through, high)]
        standing = [spine["own", level]] + list(orders[level])
        for pair in zip(standing, standing[1:]):
            between = next(names)
            levels["put in", level].append(between)
            lines += [(node, between) for node in pair]
    return Sheet([levels[row] for row in rows], lines)


def closure(sheet, pairs):
    """What follows from told pairs, by putting in what is missing over and over."""
    near = near_pairs(sheet)
    found = set(pairs)
    while True:
        more = {goal for pair in found for goal in near[pair]}
        more |= {(one[0], other[1]) for one in found for other in found if one[1] == other[0] and one[0] != other[1]}
        if more <= found:
            return sorted(found)
        found |= more


def lists_of_pairs(sheet):
    """Some lists of pairs of a sheet: none, single ones, several, one of them twice."""
    pairs = pairs_of(sheet)
    found = [[], pairs, pairs[:1] * 2]
    found += [[pair] for pair in pairs[::3]]
    found += [[pair, pairs[at // 2], pairs[-1 - at // 3]] for at, pair in enumerate(pairs[::4])]
    found += [[pair, pairs[(at * 5 + 3) % len(pairs)], pair] for at, pair in enumerate(pairs[::3])]
    return found


def clean_samples(many=40):
    """Some sheets of each kind, each with all lists of orders in which no two lines cross."""
    return [(sheet, clean_choices(sheet)) for sheet in samples(many)]


def drawn_samples(many=40):
    """Those of them that have a clean drawing."""
    return [(sheet, choices) for sheet, choices in clean_samples(many) if choices]


def plain_text(sheet):
    """The text of a sheet."""
    text = ""
    for names in sheet.levels():
        text += " ".join(["level"] + names) + "\n"
    for low, high in sheet.lines():
        text += f"line {low} {high}\n"
    return text


def word_plainly(choices, pair, other):
    """How two pairs are told by all lists of orders without a crossing."""
    with_it = [choice for choice in choices if has_pair(choice, pair)]
    if all(has_pair(choice, other) for choice in with_it):
        return "alike"
    return "turned" if all(has_pair(choice, other[::-1]) for choice in with_it) else "free"
