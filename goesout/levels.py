"""Two caches, of which the second one takes what goes from the first one."""

from goesout.named import check_places
from goesout.runs import check_requests

MOST_LEVEL_PLACES = 8


def levels(first, second, requests):
    """Return a tuple with 1, 2 or 0 for each request: the cache in which it is found, or none."""
    check_places(first, MOST_LEVEL_PLACES)
    check_places(second, MOST_LEVEL_PLACES)
    check_requests(requests)
    # What goes next comes first in both.
    upper = []
    lower = []
    found = []
    for thing in requests:
        if thing in upper:
            upper.remove(thing)
            found.append(1)
        elif thing in lower:
            lower.remove(thing)
            found.append(2)
        else:
            found.append(0)
        upper.append(thing)
        if len(upper) > first:
            lower.append(upper.pop(0))
        if len(lower) > second:
            lower.pop(0)
    return tuple(found)
