"""How much worse than another rule a rule can be in the long run."""

from math import gcd

from goesout.kinds import is_integer, is_row
from goesout.mazes import explored, way_to
from goesout.pairs import MOST_ARRANGEMENTS, Pair
from goesout.worths import are_prices, price_pairs, priced, round_sums


def ratio(one, other):
    """Return ("ratio", (p, q), way, round, prices) or ("ever", way, round)."""
    return ratio_in(explored(Pair(one, other), MOST_ARRANGEMENTS))


def shows_ratio(one, other, thing):
    """Tell whether any value shows the ratio of two rules, or that there is none."""
    return shows_ratio_in(Pair(one, other), thing)


def ratio_in(chart):
    """Return what ratio returns, for the chart of any maze."""
    at, turns = even_loop(chart)
    p, q = 1, 1
    while True:
        prices, loop = priced(chart, (q, -p))
        if loop is None:
            return "ratio", (p, q), way_to(chart, at), turns, price_pairs(chart, prices)
        # This loop shows that the fraction is too small, and by how much at least.
        at, turns = loop
        one_sum, other_sum = sums_along(chart, at, turns)
        if other_sum == 0:
            return "ever", way_to(chart, at), turns
        shared = gcd(one_sum, other_sum)
        p, q = one_sum // shared, other_sum // shared


def even_loop(chart):
    """Return a loop (at, turns) in which each turn is a miss in both."""
    counts = {}
    turns = []
    at = 0
    while at not in counts:
        counts[at] = len(turns)
        # At each node there is such a turn, as new things are misses in both.
        turn, at = [(edge[0], edge[3]) for edge in chart.edges[at] if edge[1] == edge[2] == 1][0]
        turns.append(turn)
    return at, tuple(turns[counts[at]:])


def sums_along(chart, at, turns):
    """Return what is missed in one and in other by turns from the node with a number."""
    one_sum, other_sum = 0, 0
    for turn in turns:
        edge = [edge for edge in chart.edges[at] if edge[0] == turn][0]
        one_sum = one_sum + edge[1]
        other_sum = other_sum + edge[2]
        at = edge[3]
    return one_sum, other_sum


def shows_ratio_in(maze, thing):
    """Tell what shows_ratio tells, for any maze."""
    if is_row(thing, 3) and thing[0] == "ever":
        sums = round_sums(maze, thing[1], thing[2])
        return sums is not None and sums[0] > 0 and sums[1] == 0
    if not is_row(thing, 5) or thing[0] != "ratio" or not is_fraction(thing[1]):
        return False
    p, q = thing[1]
    sums = round_sums(maze, thing[2], thing[3])
    if sums is None or sums[1] == 0 or q * sums[0] != p * sums[1]:
        return False
    return are_prices(maze, (q, -p), thing[4], None)


def is_fraction(thing):
    """Tell whether any value is a fraction of at least 1 in lowest terms."""
    if not is_row(thing, 2) or not all([is_integer(part) for part in thing]):
        return False
    return thing[0] >= thing[1] >= 1 and gcd(thing[0], thing[1]) == 1
