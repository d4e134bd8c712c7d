"""What is so in all clean drawings of a small sheet, each with a paper that shows it."""

from uplines.alike import classes_alike, orders_beside_each
from uplines.basics import is_list
from uplines.checks import check_level, check_node, check_pair, is_node_of
from uplines.choices import first_drawing, rows_with
from uplines.clean import check_clean_and_small, orders_in_clean
from uplines.counts import is_clean_of
from uplines.errors import InvalidNodes
from uplines.fences import can_keep, drawing_with, fence, is_fence, keeps
from uplines.standing import always_side_by_side, at_all_ends, first_ones, lists_within, stands_between
from uplines.ways import turned


def sure_word(sheet, pair, other):
    """How two pairs are told by all clean drawings: "alike", "turned" or "free"."""
    check_two_pairs(sheet, pair, other)
    if not can_keep(sheet, [pair, turned(other)]):
        return "alike"
    return "free" if can_keep(sheet, [pair, other]) else "turned"


def sure_paper(sheet, pair, other):
    """The word for two pairs, with the fence or the two clean drawings that show it."""
    word = sure_word(sheet, pair, other)
    same = [pair, other]
    opposite = [pair, turned(other)]
    if word == "free":
        return (word, drawing_with(sheet, same), drawing_with(sheet, opposite))
    return (word, fence(sheet, opposite if word == "alike" else same))


def is_sure_paper(sheet, pair, other, value):
    """Whether any value is a paper that shows how two pairs are told."""
    check_two_pairs(sheet, pair, other)
    if not isinstance(value, tuple) or not 2 <= len(value) <= 3:
        return False
    same = [pair, other]
    opposite = [pair, turned(other)]
    word, *shown = value
    if word == "alike":
        return len(shown) == 1 and is_fence(sheet, opposite, shown[0])
    if word == "turned":
        return len(shown) == 1 and is_fence(sheet, same, shown[0])
    if word != "free" or len(shown) != 2:
        return False
    return is_clean_keeping(sheet, same, shown[0]) and is_clean_keeping(sheet, opposite, shown[1])


def sure_classes(sheet):
    """The sorted list of the sure classes; of two that are each other turned the lesser one alone."""
    check_clean_and_small(sheet)
    return classes_alike(sheet)


def between(sheet, nodes):
    """The sorted list of those of three nodes that stand between the other two in some clean drawing."""
    check_three(sheet, nodes)
    check_clean_and_small(sheet)
    orders = orders_in_clean(sheet, sheet.level_of(nodes[0]))
    return [
        node for node in sorted(nodes)
        if any([stands_between(order, node, without_one(nodes, node)) for order in orders])
    ]


def between_papers(sheet, nodes):
    """The dict from each of three nodes to a clean drawing in which it stands between, or to a fence."""
    check_three(sheet, nodes)
    check_clean_and_small(sheet)
    papers = {}
    for node in sorted(nodes):
        one, other = without_one(sorted(nodes), node)
        papers[node] = drawing_or_fence(sheet, [(one, node), (node, other)])
    return papers


def neighbours(sheet):
    """The sorted list of the sorted tuples of two nodes between which no clean drawing has a node."""
    check_clean_and_small(sheet)
    found = []
    for level, names in enumerate(sheet.levels()):
        orders = orders_in_clean(sheet, level)
        found.extend([
            (one, other) for one in names for other in names
            if one < other and always_side_by_side(orders, [one, other])
        ])
    return sorted(found)


def parting(sheet, pair):
    """A clean drawing with a node between the two of a pair, None if they are surely neighbours."""
    check_pair(sheet, pair)
    check_clean_and_small(sheet)
    for node in other_nodes(sheet, pair):
        drawing = drawing_with(sheet, by_way_of(pair, node))
        if drawing is not None:
            return drawing
    return None


def neighbour_papers(sheet, pair):
    """The dict from all other nodes of the level to fences that keep them out of a pair; None if one gets in."""
    if parting(sheet, pair) is not None:
        return None
    return {node: fence(sheet, by_way_of(pair, node)) for node in other_nodes(sheet, pair)}


def are_neighbour_papers(sheet, pair, value):
    """Whether any value is a dict from all other nodes of the level to fences that keep them out of a pair."""
    check_pair(sheet, pair)
    check_clean_and_small(sheet)
    nodes = other_nodes(sheet, pair)
    if not isinstance(value, dict) or len(value) != len(nodes) or not all([node in value for node in nodes]):
        return False
    return all([is_fence(sheet, by_way_of(pair, node), value[node]) for node in nodes])


def may_end(sheet, level):
    """The sorted list of the nodes that are first on a level in some clean drawing."""
    check_level(sheet, level)
    check_clean_and_small(sheet)
    return first_ones(orders_in_clean(sheet, level))


def sure_ends(sheet, level):
    """The sorted list of the nodes that are first or last on a level in each clean drawing."""
    check_level(sheet, level)
    check_clean_and_small(sheet)
    return at_all_ends(orders_in_clean(sheet, level), sheet.levels()[level])


def end_paper(sheet, node):
    """A clean drawing with a node first on its level, or a fence that shows that it never ends it."""
    check_node(sheet, node)
    check_clean_and_small(sheet)
    return drawing_or_fence(sheet, ahead_of_all(sheet, node))


def is_end_paper(sheet, node, value):
    """Whether any value shows that a node may end its level, or that it never does."""
    check_node(sheet, node)
    check_clean_and_small(sheet)
    pairs = ahead_of_all(sheet, node)
    return is_clean_keeping(sheet, pairs, value) or is_fence(sheet, pairs, value)


def blocks(sheet, level):
    """The sorted list of the sorted lists of nodes, at least two and not all, that always stand side by side."""
    check_level(sheet, level)
    check_clean_and_small(sheet)
    orders = orders_in_clean(sheet, level)
    return [some for some in lists_within(sheet.levels()[level]) if always_side_by_side(orders, some)]


def decides(sheet, level, other):
    """Whether all clean drawings with the same order of a level have the same order of another one."""
    return undecided(sheet, level, other) is None


def undecided(sheet, level, other):
    """Two clean drawings with the same order of a level and unlike ones of another one, None if there are none."""
    check_level(sheet, level)
    check_level(sheet, other)
    check_clean_and_small(sheet)
    for order, beside in orders_beside_each(sheet, level, other).items():
        if len(beside) > 1:
            one, unlike = [
                first_drawing(sheet, rows_with(sheet, {level: order, other: shown})) for shown in beside[:2]
            ]
            return (one, unlike)
    return None


def check_two_pairs(sheet, pair, other):
    """Raise an error unless these are pairs of a small sheet with a clean drawing."""
    check_pair(sheet, pair)
    check_pair(sheet, other)
    check_clean_and_small(sheet)


def check_three(sheet, nodes):
    """Raise InvalidNodes unless this is a list of three different nodes of one level."""
    if not is_list(nodes) or len(nodes) != 3:
        raise InvalidNodes(None)
    for position, node in enumerate(nodes):
        if not is_node_of(sheet, node) or node in nodes[:position]:
            raise InvalidNodes(position)
        if sheet.level_of(node) != sheet.level_of(nodes[0]):
            raise InvalidNodes(position)


def without_one(nodes, node):
    """The list of the others of some nodes."""
    return [name for name in nodes if name != node]


def other_nodes(sheet, pair):
    """The sorted list of the nodes of a pair's level that are not in it."""
    return [node for node in sheet.levels()[sheet.level_of(pair[0])] if node not in pair]


def by_way_of(pair, node):
    """The pairs that are told if a node stands between the two of a pair."""
    one, other = pair
    return [(one, node), (node, other)]


def ahead_of_all(sheet, node):
    """The pairs that are told if a node stands first on its level."""
    return [(node, other) for other in without_one(sheet.levels()[sheet.level_of(node)], node)]


def is_clean_keeping(sheet, pairs, value):
    """Whether any value is a clean drawing of an equal sheet that keeps told pairs."""
    return is_clean_of(sheet, value) and keeps(value, pairs)


def drawing_or_fence(sheet, pairs):
    """The first clean drawing that keeps told pairs, or a fence against them."""
    drawing = drawing_with(sheet, pairs)
    return fence(sheet, pairs) if drawing is None else drawing
