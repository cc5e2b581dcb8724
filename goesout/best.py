"""The fewest misses of all ways to let things go, and numbers that show that there are no fewer."""

from goesout.kinds import is_integer, is_row
from goesout.named import check_places
from goesout.runs import check_requests

MOST_BEST_PLACES = 8


def check_best(requests, places):
    """Raise NoRequests or NoPlaces for what is none of these here."""
    check_requests(requests)
    check_places(places, MOST_BEST_PLACES)


def stay_ends(requests):
    """Return a dict with the second position of each stay by its first one, ascending."""
    found = {}
    last = {}
    for at, thing in enumerate(requests):
        if thing in last:
            found[last[thing]] = at
        last[thing] = at
    return {begin: found[begin] for begin in sorted(found)}


def kept_stays(requests, places, ends):
    """Return the ascending tuple of the stays that end in a hit if always the farthest thing goes."""
    found = []
    # Of each thing in the cache the position at which it was asked for last.
    last = {}
    for at, thing in enumerate(requests):
        if thing in last:
            found.append((last[thing], at))
        elif len(last) == places:
            goes = farthest(last, ends, len(requests))
            del last[goes]
        last[thing] = at
    return tuple(sorted(found))


def farthest(last, ends, never):
    """Return the thing whose next request is farthest away, the smallest of those without one."""
    away = {thing: ends.get(last[thing], never) for thing in last}
    most = max(list(away.values()))
    return min([thing for thing in away if away[thing] == most])


def cheapest_heights(many, price, ends):
    """Return a list of heights, 0 or 1, for so many positions, that cost least together with dues.

    Each 1 costs the price; a stay without a 1 between its positions is due
    and costs 1. No other numbers cost less.
    """
    # For each position what all up to it costs at least if it has a 1, and
    # the position with a 1 ahead of it; one more 1 stands at each end of all.
    costs = {-1: 0}
    ahead_of = {}
    for at in range(many + 1):
        dues = 0
        for ahead in range(at - 1, -2, -1):
            # With no 1 between ahead and at, each stay from ahead on that
            # ends at the latest there is due.
            if ends.get(ahead, at + 1) <= at:
                dues += 1
            cost = costs[ahead] + dues + price
            # Of several the last one, so that no 1 stands there in vain.
            if at not in costs or cost <= costs[at]:
                costs[at] = cost
                ahead_of[at] = ahead
    heights = [0] * many
    at = ahead_of[many]
    while at != -1:
        heights[at] = 1
        at = ahead_of[at]
    return heights


def fewest(requests, places):
    """Return the fewest misses of all ways to let things go."""
    check_best(requests, places)
    return len(requests) - len(kept_stays(requests, places, stay_ends(requests)))


def plan(requests, places):
    """Return (misses, stays, heights, dues): the fewest misses, and what shows that there are no fewer."""
    check_best(requests, places)
    ends = stay_ends(requests)
    stays = kept_stays(requests, places, ends)
    heights = cheapest_heights(len(requests), places - 1, ends)
    dues = [0 if 1 in heights[begin + 1:end] else 1 for begin, end in ends.items()]
    return len(requests) - len(stays), stays, tuple(heights), tuple(dues)


def shows_fewest(requests, places, thing):
    """Tell whether any value shows the fewest misses."""
    check_best(requests, places)
    if not is_row(thing, 4):
        return False
    misses, stays, heights, dues = thing
    ends = stay_ends(requests)
    if not is_integer(misses) or not are_stays(stays, ends):
        return False
    if not are_counts(heights, len(requests)) or not are_counts(dues, len(ends)):
        return False
    if not is_room(stays, len(requests), places) or not are_paid(ends, heights, dues):
        return False
    bound = sum(dues) + (places - 1) * sum(heights)
    return len(requests) - len(stays) == misses == len(requests) - bound


def are_stays(thing, ends):
    """Tell whether any value is an ascending tuple of stays."""
    if not isinstance(thing, tuple) or len(thing) > len(ends):
        return False
    last = -1
    for part in thing:
        if not is_row(part, 2) or not is_integer(part[0]) or not is_integer(part[1]):
            return False
        # No two stays have the same first position.
        if part[0] <= last or ends.get(part[0]) != part[1]:
            return False
        last = part[0]
    return True


def are_counts(thing, length):
    """Tell whether any value is a tuple of so many integers from 0 on."""
    return is_row(thing, length) and all([is_integer(part) and part >= 0 for part in thing])


def is_room(stays, many, places):
    """Tell whether at most places - 1 stays go on over each of so many positions."""
    for at in range(many):
        if len([stay for stay in stays if stay[0] < at < stay[1]]) >= places:
            return False
    return True


def are_paid(ends, heights, dues):
    """Tell whether the due of each stay and the heights within it come to 1 or more."""
    for (begin, end), due in zip(ends.items(), dues):
        if due + sum(heights[begin + 1:end]) < 1:
            return False
    return True
