"""Two walkers on a pair of nodes: steps, walks, changes, classes of pairs."""

from uplines.basics import is_list
from uplines.checks import check_count, check_pair, is_pair_of
from uplines.errors import InvalidWalk, NothingToUndo, Refused
from uplines.nets import check_limit
from uplines.saving import Saved
from uplines.ways import classes_of, does_turn, gaps_of, lines_passed, reached_ahead, shortest_change, shortest_turning
from uplines.ways import steps_along, steps_by_pair, steps_from, turned, way_to

MOST_STEPS = 40


def steps(sheet, pair):
    """The sorted list of the pairs to which a step leads from a pair."""
    check_pair(sheet, pair)
    return steps_from(sheet, pair)


def is_step(sheet, start, goal):
    """Whether a step leads from a pair to another one."""
    check_pair(sheet, start)
    check_pair(sheet, goal)
    return goal in steps_from(sheet, start)


def walk(sheet, start, goal):
    """A walk with as few pairs as can be from start to goal, None if there is none."""
    check_pair(sheet, start)
    check_pair(sheet, goal)
    ahead = reached_ahead(steps_by_pair(sheet), start)
    if goal not in ahead:
        return None
    return way_to(ahead, goal)


def how_far(sheet, start, goal):
    """The number of steps of a shortest walk from start to goal, None if there is none."""
    found = walk(sheet, start, goal)
    if found is None:
        return None
    return len(found) - 1


def is_walk(sheet, start, goal, value):
    """Whether any value is a walk from start to goal."""
    check_pair(sheet, start)
    check_pair(sheet, goal)
    return is_way(sheet, value) and value[0] == start and value[-1] == goal


def change(sheet):
    """A change with as few pairs as can be, None if there is none."""
    return shortest_change(steps_by_pair(sheet))


def change_from(sheet, pair):
    """A change that begins with a pair, with as few pairs as can be; None if there is none."""
    check_pair(sheet, pair)
    graph = steps_by_pair(sheet)
    return shortest_turning(graph, pair, {}, len(graph))


def is_change(sheet, value):
    """Whether any value is a change of the sheet."""
    return is_way(sheet, value) and value[-1] == turned(value[0])


def has_change(sheet):
    """Whether the sheet has a change at all."""
    return does_turn(steps_along(gaps_of(sheet)))


def class_of(sheet, pair):
    """The sorted list of all pairs to which a walk leads from a pair."""
    check_pair(sheet, pair)
    return sorted(reached_ahead(steps_by_pair(sheet), pair))


def classes(sheet):
    """The sorted list of all classes, each of them sorted."""
    return classes_of(steps_by_pair(sheet))


def relation(sheet, one, other):
    """How two pairs are told by walks: "both", "alike", "turned" or "free"."""
    check_pair(sheet, one)
    check_pair(sheet, other)
    ahead = reached_ahead(steps_by_pair(sheet), one)
    if other in ahead:
        return "both" if turned(other) in ahead else "alike"
    return "turned" if turned(other) in ahead else "free"


def lines_of(sheet, way):
    """The sorted list of the lines of a walk, each once."""
    if not is_list(way) or len(way) == 0:
        raise InvalidWalk(None)
    position = first_wrong(sheet, way)
    if position is not None:
        raise InvalidWalk(position)
    return lines_passed([sheet.lines()], way)


def many_walks(sheet, start, goal, number):
    """How many walks of just so many steps lead from start to goal."""
    check_pair(sheet, start)
    check_pair(sheet, goal)
    check_steps(number)
    graph = steps_by_pair(sheet)
    counts = {start: 1}
    for _ in range(number):
        counts = counts_behind(graph, counts)
    return counts.get(goal, 0)


def all_walks(sheet, start, number):
    """All walks of just so many steps that begin with start, sorted, one after the other."""
    check_pair(sheet, start)
    check_steps(number)
    way = filled_way(sheet, [start], number)
    while way is not None:
        yield list(way)
        way = way_behind(sheet, way)


def check_steps(number):
    """Raise an error unless this is a number of steps of which walks can be told."""
    check_count(number)
    check_limit("steps", number, MOST_STEPS)


def first_wrong(sheet, way):
    """The position of the first in a list that cannot stand there in a walk, None if all can."""
    for position, pair in enumerate(way):
        if not is_pair_of(sheet, pair):
            return position
        if position > 0 and pair not in steps_from(sheet, way[position - 1]):
            return position
    return None


def is_way(sheet, value):
    """Whether any value is a walk."""
    return is_list(value) and len(value) > 0 and first_wrong(sheet, value) is None


def counts_behind(graph, counts):
    """How many walks lead to each pair with a step more, by how many lead to each without it."""
    behind = {}
    for pair in counts:
        for near in graph[pair]:
            behind[near] = behind.get(near, 0) + counts[pair]
    return behind


def filled_way(sheet, way, number):
    """The first walk of so many steps that goes on from this one, None if there is none."""
    filled = list(way)
    while len(filled) <= number:
        near = steps_from(sheet, filled[-1])
        if len(near) == 0:
            return None
        filled.append(near[0])
    return filled


def way_behind(sheet, way):
    """The next walk of as many steps with the same start, as walks are sorted; None behind the last one."""
    for position in range(len(way) - 1, 0, -1):
        later = [pair for pair in steps_from(sheet, way[position - 1]) if pair > way[position]]
        if len(later) > 0:
            # Each step can be gone back, so a walk can always be filled.
            return filled_way(sheet, [*way[:position], later[0]], len(way) - 1)
    return None


class Walkers:
    """Two walkers on a pair of a sheet, who are led step by step, and can be led back."""

    def __init__(self, sheet, pair):
        check_pair(sheet, pair)
        self._sheet = sheet
        # The way is replaced, never changed, so that it can be kept and gone through meanwhile.
        self._way = [pair]
        self._saved = None

    @property
    def sheet(self):
        """The sheet over which they are led."""
        return self._sheet

    @property
    def pair(self):
        """Where they stand; they begin anew where this is set to."""
        return self._way[-1]

    @pair.setter
    def pair(self, value):
        self.begin(value)

    @property
    def ups(self):
        """How many of their steps went up."""
        levels = self._levels_passed()
        return len([1 for level, goal in zip(levels, levels[1:]) if goal > level])

    @property
    def downs(self):
        """How many of their steps went down."""
        return len(self) - self.ups

    def begin(self, pair):
        """Let them begin anew on a pair."""
        check_pair(self._sheet, pair)
        self._way = [pair]

    def way(self):
        """The walk that they have made so far."""
        return list(self._way)

    def go(self, goal):
        """Let them make a step; the walkers themselves are returned."""
        check_pair(self._sheet, goal)
        if goal not in steps_from(self._sheet, self._way[-1]):
            raise Refused(goal)
        self._way = [*self._way, goal]
        return self

    def back(self):
        """Let them go back by one step; the pair on which they stand then is returned."""
        if len(self) == 0:
            raise NothingToUndo()
        self._way = self._way[:-1]
        return self._way[-1]

    def have_changed(self):
        """Whether their way is a change."""
        return self._way[-1] == turned(self._way[0])

    def copy(self):
        """Walkers with the same way who go on by themselves."""
        made = Walkers(self._sheet, self._way[0])
        made._way = self._way
        return made

    def __len__(self):
        return len(self._way[1:])

    def __contains__(self, x):
        return x in self._way

    def __iter__(self):
        return iter(self._way)

    def __eq__(self, other):
        return isinstance(other, Walkers) and self._sheet == other._sheet and self._way == other._way

    def __iadd__(self, other):
        return self.go(other)

    def __enter__(self):
        self._saved = Saved(self._way, self._saved)
        return self

    def __exit__(self, kind, value, trace):
        saved = self._saved
        if kind is not None:
            self._way = saved.past
        self._saved = saved.outer

    def _levels_passed(self):
        return [self._sheet.level_of(pair[0]) for pair in self._way]
