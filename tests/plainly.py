"""What drawings and walks are, gone through plainly: all choices of all orders, all pairs of lines."""

import itertools
import random

from uplines.sheets import Sheet


def sheets_of_two_levels():
    """All sheets of two levels with up to three nodes on each, every third one of the largest."""
    for lows, highs in itertools.product(range(4), range(4)):
        levels = [["a", "b", "c"][:lows], ["x", "y", "z"][:highs]]
        lines = list(itertools.product(*levels))
        for bits in range(0, 2 ** len(lines), 3 if len(lines) == 9 else 1):
            yield Sheet(levels, [line for at, line in enumerate(lines) if bits >> at & 1])


def random_sheet(seed, levels, nodes, share):
    """A sheet with up to so many levels and nodes on each, and about so many of ten possible lines."""
    chance = random.Random(seed)
    names = [f"{letter}{number}" for letter in "abcdef" for number in range(6)]
    chance.shuffle(names)
    told = [[names.pop() for _ in range(chance.randint(0 if seed % 7 == 0 else 1, nodes))] for _ in range(levels)]
    lines = [(low, high) for lows, highs in zip(told, told[1:]) for low in lows for high in highs]
    return Sheet(told, [line for line in lines if chance.randrange(10) < share])


def grown_sheet(seed, levels, nodes):
    """A sheet in which some pair of walkers can change places, but without any of the short ways to do so."""
    chance = random.Random(seed)
    told = [[f"n{level}x{node}" for node in range(nodes)] for level in range(levels)]
    lines = [(low, high) for lows, highs in zip(told, told[1:]) for low in lows for high in highs]
    chance.shuffle(lines)
    sheet = Sheet(told)
    for line in lines:
        steps = least_turning(sheet + line)
        if steps is None:
            sheet = sheet + line
        elif steps > 2:
            return sheet + line
    raise ValueError(seed)


def sheets_of_three_levels(many):
    """Sheets of three levels with up to three nodes on each, some with an empty level."""
    for seed in range(many):
        yield random_sheet(seed, 3, 3, 2 + seed % 5)


def samples(many=60):
    """Some sheets of each kind."""
    yield from [Sheet([[]]), Sheet([["a"]]), Sheet([["c", "a", "b"]]), Sheet([[], [], []])]
    yield from list(sheets_of_two_levels())[::23]
    yield from sheets_of_three_levels(many)


def every_choice(sheet):
    """All lists of orders of the sheet's levels, sorted."""
    orders = [[list(order) for order in itertools.permutations(names)] for names in sheet.levels()]
    return [list(choice) for choice in itertools.product(*orders)]


def crossing_lines(sheet, orders):
    """The sorted list of the tuples of two lines that cross, by looking at all of them."""
    places = {node: (level, at) for level, order in enumerate(orders) for at, node in enumerate(order)}
    found = []
    for (u, v), (w, x) in itertools.combinations(sorted(sheet.lines()), 2):
        if places[u][0] == places[w][0] and u != w and v != x:
            if (places[u] < places[w]) != (places[v] < places[x]):
                found.append(((u, v), (w, x)))
    return found


def clean_choices(sheet):
    """All lists of orders in which no two lines cross, sorted."""
    return [choice for choice in every_choice(sheet) if not crossing_lines(sheet, choice)]


def has_pair(choice, pair):
    """Whether the first node of a pair is left of the other one in a list of orders."""
    return any(order.index(pair[0]) < order.index(pair[1]) for order in choice if pair[0] in order)


def keeping(choices, pairs):
    """Those of some lists of orders that keep told pairs."""
    return [choice for choice in choices if all(has_pair(choice, pair) for pair in pairs)]


def having(choices, orders):
    """Those of some lists of orders that have told orders."""
    return [choice for choice in choices if all(choice[level] == list(order) for level, order in orders.items())]


def pairs_of(sheet):
    return [pair for names in sheet.levels() for pair in itertools.permutations(names, 2)]


def leads(sheet, start, goal):
    """Whether a step leads from a pair to another one."""
    return goal in near_pairs(sheet)[start]


def near_pairs(sheet):
    """The dict from each pair to the list of the pairs to which a step leads, by looking at all of them."""
    lines = set(sheet.lines())
    pairs = pairs_of(sheet)
    ways = {(one, other) for one, other in lines} | {(other, one) for one, other in lines}
    level = {node: number for number, names in enumerate(sheet.levels()) for node in names}
    return {
        start: [goal for goal in pairs if (start[0], goal[0]) in ways and (start[1], goal[1]) in ways
                and level[goal[0]] == level[goal[1]]]
        for start in pairs
    }


def distances(sheet, start, near=None):
    """The dict from each pair that can be reached to the number of steps, found round by round."""
    near = near or near_pairs(sheet)
    found = {start: 0}
    rounds = 0
    while rounds in found.values():
        for pair in [pair for pair in found if found[pair] == rounds]:
            for goal in near[pair]:
                found.setdefault(goal, rounds + 1)
        rounds += 1
    return found


def least_turning(sheet):
    """The least number of steps in which some pair comes to the same pair turned, None if none does."""
    near = near_pairs(sheet)
    far = [distances(sheet, pair, near).get(pair[::-1]) for pair in near]
    return min([steps for steps in far if steps is not None], default=None)


def is_walk_plainly(sheet, value):
    """Whether a list of pairs is a walk."""
    near = near_pairs(sheet)
    return len(value) > 0 and all(pair in near for pair in value) and all(
        goal in near[pair] for pair, goal in zip(value, value[1:]))
