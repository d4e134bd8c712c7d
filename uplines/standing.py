"""How nodes stand in orders of one level: between others, side by side, at an end."""


def stands_between(order, node, others):
    """Whether a node stands between two others in an order."""
    at = order.index(node)
    return (order.index(others[0]) < at) == (at < order.index(others[1]))


def stand_side_by_side(order, nodes):
    """Whether no other node stands among these in an order."""
    places = [order.index(node) for node in nodes]
    return max(places) - min(places) == len(nodes) - 1


def always_side_by_side(orders, nodes):
    """Whether no other node stands among these in any of the orders."""
    return all([stand_side_by_side(order, nodes) for order in orders])


def first_ones(orders):
    """The sorted list of the nodes that are first in some of the orders."""
    return sorted({order[0] for order in orders if len(order) > 0})


def at_all_ends(orders, nodes):
    """The list of those of the nodes of a level that are first or last in each of the orders."""
    return [node for node in nodes if all([node == order[0] or node == order[-1] for order in orders])]


def lists_within(nodes):
    """The sorted list of all lists of at least two of these sorted nodes, but not all."""
    lists = [
        [node for at, node in enumerate(nodes) if ((bits >> at) & 1) == 1] for bits in range(1 << len(nodes))
    ]
    return sorted([some for some in lists if 2 <= len(some) < len(nodes)])
