"""What a rule does with requests, from the state at first on."""

from goesout.errors import NoRequests
from goesout.rules import LAST_THING, begun, check_rule, step, things_in

MOST_REQUESTS = 60


def is_requests(thing):
    """Tell whether any value is requests."""
    # The length comes first, so that no long tuple is gone through.
    if not isinstance(thing, tuple) or len(thing) > MOST_REQUESTS:
        return False
    for part in thing:
        if not isinstance(part, int) or not 0 <= part <= LAST_THING or part is True or part is False:
            return False
    return True


def check_requests(requests):
    """Raise NoRequests for what is no requests."""
    if not is_requests(requests):
        raise NoRequests("requests are a tuple of up to 60 things")


def steps(rule, requests):
    """Return a list with what asked tells of each request."""
    check_rule(rule)
    check_requests(requests)
    state = begun(rule)
    told = []
    for thing in requests:
        one = step(rule, state, thing)
        told.append(one)
        state = one[2]
    return told


def behind(rule, requests):
    """Return the state behind the requests."""
    told = steps(rule, requests)
    return told[-1][2] if told else begun(rule)


def kept(rule, requests):
    """Return the ascending tuple of the things that are kept behind the requests."""
    return things_in(behind(rule, requests)[0])


def hits(rule, requests):
    """Return a tuple with True for each hit and False for each miss."""
    return tuple([one[0] for one in steps(rule, requests)])


def gone(rule, requests):
    """Return a tuple with the thing that goes, or None, at each request."""
    return tuple([one[1] for one in steps(rule, requests)])


def misses(rule, requests):
    """Return the number of misses."""
    return len([one for one in steps(rule, requests) if not one[0]])
