"""Sheets: nodes on levels, and lines from level to level."""

from uplines.basics import is_integer, is_name
from uplines.errors import InvalidLevel, InvalidLine, InvalidName, InvalidSheet
from uplines.errors import NameTaken, OtherLevels, UnknownLine, UnknownNode
from uplines.nets import check_apart, check_different, check_fitting, check_levels, check_limit, check_lines
from uplines.nets import ends_by_node, fits_as_line, is_node, places_of, reached_from

SMALL_LEVELS = 6
SMALL_NODES = 5
SMALL_LINES = 12


class Sheet:
    """Nodes on levels, with lines from nodes to nodes of the next level. It never changes."""

    MOST_LEVELS = 12
    MOST_NODES = 18
    MOST_LINES = 200

    def __init__(self, levels, lines=()):
        check_levels(levels)
        places = places_of(levels)
        check_lines(lines, places)
        check_limit("levels", len(levels), Sheet.MOST_LEVELS)
        check_limit("nodes", max([len(names) for names in levels]), Sheet.MOST_NODES)
        check_limit("lines", len(lines), Sheet.MOST_LINES)
        self._levels = [sorted(names) for names in levels]
        self._lines = sorted([(low, high) for low, high in lines])
        self._nodes = [node for names in self._levels for node in names]
        self._places = places
        # The lines are sorted, so the ends of each node come out sorted, too.
        self._ups = ends_by_node(self._nodes, self._lines)
        self._downs = ends_by_node(self._nodes, [(high, low) for low, high in self._lines])

    @classmethod
    def chain(cls, *names):
        """The sheet with one node on each level, each joined to the next one."""
        for name in names:
            if not is_name(name):
                raise InvalidName(name)
        check_different(names)
        # Without names there are no levels, for which the class itself raises InvalidLevels(None).
        return cls([[node] for node in names], list(zip(names, names[1:])))

    def levels(self):
        """The list of the sorted lists of the nodes, from level 0 on."""
        return [list(names) for names in self._levels]

    def level(self, number):
        """The sorted list of the nodes of a level."""
        if not self._is_level(number):
            raise InvalidLevel(number)
        return list(self._levels[number])

    def lines(self):
        """The sorted list of the lines."""
        return list(self._lines)

    def gap(self, number):
        """The sorted list of the lines from a level to the next one."""
        if not self._is_level(number) or number == len(self) - 1:
            raise InvalidLevel(number)
        return [line for line in self._lines if self._places[line[0]] == number]

    def level_of(self, node):
        """The number of the level of a node."""
        if not is_node(node, self._places):
            raise UnknownNode(node)
        return self._places[node]

    def above(self, node):
        """The sorted list of the nodes to which lines lead up from a node."""
        if not is_node(node, self._places):
            raise UnknownNode(node)
        return list(self._ups[node])

    def below(self, node):
        """The sorted list of the nodes to which lines lead down from a node."""
        if not is_node(node, self._places):
            raise UnknownNode(node)
        return list(self._downs[node])

    def pairs(self):
        """The sorted list of all tuples of two different nodes of one level."""
        return sorted([
            (one, other) for names in self._levels for one in names for other in names if one != other
        ])

    def parts(self):
        """The list of all parts, by their first nodes as the sheet is iterated."""
        parts = []
        taken = {}
        for node in self._nodes:
            if node not in taken:
                reached = reached_from(node, self._ups, self._downs)
                for name in reached:
                    taken[name] = True
                parts.append(self._with_only(reached))
        return parts

    def is_small(self):
        """Whether the sheet is within all three bounds of small sheets."""
        if len(self) > SMALL_LEVELS or max([len(names) for names in self._levels]) > SMALL_NODES:
            return False
        return all([len(self.gap(number)) <= SMALL_LINES for number in range(len(self) - 1)])

    def __len__(self):
        return len(self._levels)

    def __contains__(self, x):
        return is_node(x, self._places) or self._is_line(x)

    def __iter__(self):
        return iter(self._nodes)

    def __eq__(self, other):
        return isinstance(other, Sheet) and self._levels == other._levels and self._lines == other._lines

    def __repr__(self):
        return f"Sheet({self._levels!r}, {self._lines!r})"

    def __add__(self, other):
        if not fits_as_line(other, self._places):
            raise InvalidLine(other)
        return self._with_lines([other])

    def __radd__(self, other):
        return self + other

    def __sub__(self, other):
        if not self._is_line(other):
            raise UnknownLine(other)
        return Sheet(self._levels, [line for line in self._lines if line != other])

    def __invert__(self):
        return Sheet(self._levels[::-1], [(high, low) for low, high in self._lines])

    def __or__(self, other):
        if not isinstance(other, Sheet):
            raise InvalidSheet(other)
        if len(self) != len(other):
            raise OtherLevels(len(self), len(other))
        check_apart(self._nodes, other._places)
        levels = [left + right for left, right in zip(self._levels, other._levels)]
        return Sheet(levels, self._lines + other._lines)

    def __rshift__(self, other):
        if not isinstance(other, Sheet):
            raise InvalidSheet(other)
        check_apart(self._nodes, other._places)
        return Sheet(self._levels + other._levels, self._lines + other._lines)

    def with_node(self, level, name):
        """The sheet with a node more on a level."""
        if not self._is_level(level):
            raise InvalidLevel(level)
        if not is_name(name):
            raise InvalidName(name)
        if name in self._places:
            raise NameTaken(name)
        levels = [[*names, name] if number == level else names for number, names in enumerate(self._levels)]
        return Sheet(levels, self._lines)

    def without_node(self, node):
        """The sheet without a node and its lines."""
        if not is_node(node, self._places):
            raise UnknownNode(node)
        return self._with_only([name for name in self._nodes if name != node])

    def with_level(self):
        """The sheet with an empty level on top."""
        return Sheet([*self._levels, []], self._lines)

    def cut(self, first, last):
        """The levels from first to last, and the lines between them."""
        if not self._is_level(first):
            raise InvalidLevel(first)
        if not self._is_level(last) or last < first:
            raise InvalidLevel(last)
        lines = [(low, high) for low, high in self._lines if first <= self._places[low] and self._places[high] <= last]
        return Sheet(self._levels[first:last + 1], lines)

    def joined(self, lines):
        """The sheet with all lines of a list, those that it has already among them."""
        check_fitting(lines, self._places)
        return self._with_lines(lines)

    def _is_level(self, value):
        return is_integer(value) and 0 <= value < len(self)

    def _is_line(self, value):
        return fits_as_line(value, self._places) and value[1] in self._ups[value[0]]

    def _with_lines(self, lines):
        """The sheet with lines that fit, each put in once."""
        found = {}
        for line in self._lines:
            found[line] = True
        for line in lines:
            found[line] = True
        return Sheet(self._levels, list(found))

    def _with_only(self, nodes):
        """The sheet with just these of its nodes, and the lines between them."""
        levels = [[name for name in names if name in nodes] for names in self._levels]
        return Sheet(levels, [(low, high) for low, high in self._lines if low in nodes and high in nodes])
