"""Which lines have to be struck, looked for in the lists of the lines of each gap."""

from uplines.ways import does_turn, lines_passed, shortest_change, steps_along


def gaps_without(gaps, struck):
    """The lines of each gap without those that are struck."""
    return [[line for line in lines if line not in struck] for lines in gaps]


def helping_lists(gaps, most):
    """Lists of at most so many lines that help, as sorted tuples; all narrow ones of these are among them."""
    found = []
    layer = [()]
    for many in range(most + 1):
        further = {}
        for struck in layer:
            rest = gaps_without(gaps, struck)
            graph = steps_along(rest)
            if not does_turn(graph):
                found.append(struck)
            elif many < most:
                # Whoever strikes no line of a change leaves it there, so one of these has to be struck, too.
                for line in lines_passed(rest, shortest_change(graph)):
                    further[tuple(sorted([*struck, line]))] = True
        layer = sorted(further)
    return found


def is_part_of(some, others):
    """Whether some lines are fewer than others, and all of them are among these."""
    return len(some) < len(others) and all([line in others for line in some])


def narrow_among(lists):
    """The sorted list of those of the lists that help of which no part with fewer lines helps."""
    found = [list(some) for some in lists if not any([is_part_of(part, some) for part in lists])]
    return sorted(found)


def tree_along(gaps, many):
    """A tree against so many lines, None if at most so many help."""
    graph = steps_along(gaps)
    if not does_turn(graph):
        return None
    change = shortest_change(graph)
    if many == 0:
        return ("change", change)
    trees = {}
    for line in lines_passed(gaps, change):
        tree = tree_along(gaps_without(gaps, [line]), many - 1)
        if tree is None:
            return None
        trees[line] = tree
    return ("strike", change, trees)
