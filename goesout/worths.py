"""What ways are worth: so much for each miss in one, and in other.

A worth is a pair of integers, (for a miss in one, for a miss in other).
"""

from goesout.kinds import is_integer, is_row
from goesout.mazes import followed, way_back


def worth_of(worth, one_misses, other_misses):
    """Return what misses are worth."""
    return worth[0] * one_misses + worth[1] * other_misses


def priced(chart, worth):
    """Return (prices, None), or (None, loop) if ways are worth ever more.

    The prices are the greatest worths of ways to the nodes of a chart, in
    their order. A loop is a tuple (at, turns): turns that lead from the node
    with this number back to it, and that are worth more than 0.
    """
    prices = [None] * len(chart.nodes)
    came = [None] * len(chart.nodes)
    prices[0] = 0
    fresh = [0]
    while fresh:
        fresh = spread(chart, worth, prices, came, fresh)
        # Nodes that have their prices from each other, in a ring, are worth
        # more each time around.
        at = in_ring(came)
        if at is not None:
            return None, (at, ring_at(came, at))
    return prices, None


def spread(chart, worth, prices, came, fresh):
    """Raise the prices of all nodes to which the fresh ones lead; return a list of these."""
    one_worth, other_worth = worth
    raised = {}
    for at in fresh:
        for turn, one_misses, other_misses, then in chart.edges[at]:
            price = prices[at] + one_worth * one_misses + other_worth * other_misses
            if prices[then] is None or prices[then] < price:
                prices[then] = price
                came[then] = (at, turn)
                raised[then] = True
    return list(raised)


def in_ring(came):
    """Return a node from which going back, by where each node came from, comes back to it, or None."""
    seen = [None] * len(came)
    for begin in range(len(came)):
        at = begin
        while seen[at] is None and came[at] is not None:
            seen[at] = begin
            at = came[at][0]
        if seen[at] == begin and came[at] is not None:
            return at
    return None


def ring_at(came, begin):
    """Return the turns that lead once around, from a node back to it."""
    at, turn = came[begin]
    turns = [turn]
    while at != begin:
        at, turn = came[at]
        turns.append(turn)
    return tuple(turns[::-1])


def first_way_worth(chart, worth, prices, wanted):
    """Return the first of the shortest ways that are worth as much as the greatest price."""
    came = {0: None}
    found = [0]
    done = 0
    while prices[found[done]] != wanted:
        at = found[done]
        for turn, one_misses, other_misses, then in chart.edges[at]:
            # A way that is worth the price of its end is so at each node.
            price = prices[at] + worth_of(worth, one_misses, other_misses)
            if price == prices[then] and then not in came:
                came[then] = (at, turn)
                found.append(then)
        done += 1
    return way_back(came, found[done])


def price_pairs(chart, prices):
    """Return the ascending tuple of pairs of a node and its price."""
    return tuple(sorted([(node, price) for node, price in zip(chart.nodes, prices)]))


def are_prices(maze, worth, thing, most):
    """Tell whether any value is a tuple of pairs of different nodes and integers that show a bound.

    The first node has 0, no price is above most, unless this is None, and
    each way leads to a node whose price covers what the way adds.
    """
    if not isinstance(thing, tuple):
        return False
    prices = {}
    for pair in thing:
        if not is_row(pair, 2) or not maze.holds(pair[0]) or not is_integer(pair[1]):
            return False
        node, price = pair
        if node in prices or (most is not None and price > most):
            return False
        prices[node] = price
    if prices.get(maze.first()) != 0:
        return False
    return all([are_covered(maze, worth, node, prices) for node in prices])


def are_covered(maze, worth, node, prices):
    """Tell whether each way from a node leads to one whose price is great enough."""
    for _, one_misses, other_misses, then in maze.ways(node):
        if then not in prices or prices[then] < prices[node] + worth_of(worth, one_misses, other_misses):
            return False
    return True


def round_sums(maze, way, turns):
    """Return what is missed in one and in other by a round behind a way, or None.

    None if any values are no way, and no turns, one or more, that lead from
    the node behind it back to it.
    """
    behind = followed(maze, maze.first(), way)
    if behind is None:
        return None
    told = followed(maze, behind[2], turns)
    if told is None or turns == () or told[2] != behind[2]:
        return None
    return told[0], told[1]
