"""Ways from pair to pair, looked for in a dict from each pair to the pairs to which a step leads from it."""


def turned(pair):
    """The pair with its nodes exchanged."""
    one, other = pair
    return (other, one)


def steps_from(sheet, pair):
    """The sorted list of the pairs to which a step leads from a pair."""
    one, other = pair
    ups = [(v, x) for v in sheet.above(one) for x in sheet.above(other) if v != x]
    downs = [(v, x) for v in sheet.below(one) for x in sheet.below(other) if v != x]
    return sorted(ups + downs)


def steps_by_pair(sheet):
    """The dict from each pair of the sheet to the sorted list of the pairs to which a step leads from it."""
    return {pair: steps_from(sheet, pair) for pair in sheet.pairs()}


def gaps_of(sheet):
    """The list of the sorted lines of each gap."""
    return [sheet.gap(number) for number in range(len(sheet) - 1)]


def steps_along(gaps):
    """The dict from each pair from which steps lead, by the lines of each gap, to the list of the pairs where to."""
    graph = {}
    for lines in gaps:
        for low, high in lines:
            for other_low, other_high in lines:
                if low != other_low and high != other_high:
                    graph.setdefault((low, other_low), []).append((high, other_high))
                    graph.setdefault((high, other_high), []).append((low, other_low))
    return graph


def lines_passed(gaps, way):
    """The sorted list of those lines along which the steps of a walk go."""
    passed = {ends: True for pair, goal in zip(way, way[1:]) for ends in zip(pair, goal)}
    return sorted([
        (low, high) for lines in gaps for low, high in lines if (low, high) in passed or (high, low) in passed
    ])


def next_layer(graph, layer, ahead, gone):
    """The pairs that are reached first from a layer, which are put into ahead, but none of those that are gone."""
    found = []
    for pair in layer:
        for near in graph[pair]:
            if near not in ahead and near not in gone:
                ahead[near] = pair
                found.append(near)
    return found


def reached_ahead(graph, start):
    """The dict from each pair that can be reached to the one ahead of it on a shortest way from start."""
    # Nothing but its own lists and dicts is changed here, as properties come to this, too.
    ahead = {start: None}
    layer = [start]
    while len(layer) > 0:
        found = []
        for pair in layer:
            for near in graph[pair]:
                if near not in ahead:
                    ahead[near] = pair
                    found.append(near)
        layer = list(found)
    return ahead


def way_to(ahead, goal):
    """The way on which a pair was reached."""
    way = []
    at = goal
    while at is not None:
        way.append(at)
        at = ahead[at]
    return way[::-1]


def classes_of(graph):
    """The list of the sorted lists of all classes, sorted."""
    taken = {}
    found = []
    for start in sorted(graph):
        if start not in taken:
            members = sorted(reached_ahead(graph, start))
            for pair in members:
                taken[pair] = True
            found.append(members)
    return found


def pairs_in_changes(graph):
    """The list of all pairs from which a way leads to the same pair turned."""
    found = []
    for members in classes_of(graph):
        # Ways can be turned and gone back, so all pairs of a class are in it turned, or none is.
        if turned(members[0]) in members:
            found.extend(members)
    return found


def does_turn(graph):
    """Whether a way leads from some pair to the same pair turned."""
    taken = {}
    for start in graph:
        if start not in taken:
            reached = reached_ahead(graph, start)
            # All pairs of a class can be reached turned, or none can.
            if turned(start) in reached:
                return True
            for pair in reached:
                taken[pair] = True
    return False


def turned_way_back(way):
    """The way that leads from the last pair of a way, turned, to the first one, turned."""
    return [turned(pair) for pair in way[::-1]]


def shortest_turning(graph, start, gone, reach):
    """A shortest way from start to start turned that avoids what is gone.

    Only pairs up to so many steps from start are looked at: None if the way has more than twice as many.
    """
    ahead = {start: None}
    layer = [start]
    while len(layer) > 0 and reach > 0:
        layer = next_layer(graph, layer, ahead, gone)
        reach = reach - 1
        for pair in layer:
            # A way to a pair goes on by a way to the pair turned; the first two that meet so are least.
            if turned(pair) in ahead:
                return way_to(ahead, pair) + turned_way_back(way_to(ahead, turned(pair)))[1:]
    return None


def shortest_change(graph):
    """A change with as few pairs as can be, None if there is none."""
    best = None
    reach = len(graph)
    gone = {}
    for start in pairs_in_changes(graph):
        if start not in gone:
            found = shortest_turning(graph, start, gone, reach)
            if found is not None:
                best = found
                # Only a change with fewer steps, two at least, is looked for from now on.
                reach = (len(found) - 1) // 2 - 1
            # A change can begin with any of its pairs, so those with start or start turned are done with.
            gone[start] = True
            gone[turned(start)] = True
    return best
