"""How many misses more another rule can ever have."""

from goesout.kinds import is_integer, is_row
from goesout.mazes import explored, followed, way_to
from goesout.pairs import MOST_ARRANGEMENTS, Pair
from goesout.worths import are_prices, first_way_worth, price_pairs, priced, round_sums, worth_of

# A miss in one takes from the excess, one in other adds to it.
WORTH = (-1, 1)


def excess(one, other):
    """Return ("most", k, walk, prices) or ("ever", way, round)."""
    chart = explored(Pair(one, other), MOST_ARRANGEMENTS)
    prices, loop = priced(chart, WORTH)
    if loop is not None:
        return "ever", way_to(chart, loop[0]), loop[1]
    most = max(prices)
    walk = first_way_worth(chart, WORTH, prices, most)
    return "most", most, walk, price_pairs(chart, prices)


def shows_excess(one, other, thing):
    """Tell whether any value shows the greatest excess, or that there is none."""
    pair = Pair(one, other)
    if is_row(thing, 4) and thing[0] == "most":
        return shows_most(pair, thing[1], thing[2], thing[3])
    if is_row(thing, 3) and thing[0] == "ever":
        sums = round_sums(pair, thing[1], thing[2])
        return sums is not None and worth_of(WORTH, sums[0], sums[1]) > 0
    return False


def shows_most(pair, most, walk, prices):
    """Tell whether any values are the greatest excess, a walk that has it, and prices for it."""
    if not is_integer(most):
        return False
    told = followed(pair, pair.first(), walk)
    if told is None or worth_of(WORTH, told[0], told[1]) != most:
        return False
    return are_prices(pair, WORTH, prices, most)
