"""What is written in caches, and how often it is written back."""

from goesout.errors import NoAccesses
from goesout.kinds import is_row
from goesout.lists import all_states
from goesout.named import check_family
from goesout.rules import begun, check_rule, is_thing, step
from goesout.runs import MOST_REQUESTS


def is_accesses(thing):
    """Tell whether any value is accesses."""
    # The length comes first, so that no long tuple is gone through.
    if not isinstance(thing, tuple) or len(thing) > MOST_REQUESTS:
        return False
    return all([is_row(part, 2) and is_thing(part[0]) and isinstance(part[1], bool) for part in thing])


def check_accesses(accesses):
    """Raise NoAccesses for what is no accesses."""
    if not is_accesses(accesses):
        raise NoAccesses("accesses are a tuple of up to 60 pairs (thing, is_write)")


def writebacks(rule, accesses):
    """Return how often things are written back."""
    check_rule(rule)
    check_accesses(accesses)
    return written_back(rule, accesses)


def written_back(rule, accesses):
    """Return what writebacks returns, for arguments that were checked before."""
    state = begun(rule)
    dirty = {}
    many = 0
    for thing, is_write in accesses:
        _, goes, state = step(rule, state, thing)
        if goes in dirty:
            del dirty[goes]
            many += 1
        if is_write:
            dirty[thing] = True
    return many + len(dirty)


def line_writebacks(family, accesses):
    """Return the tuple of the numbers of what is written back, for all caches of a family."""
    check_family(family)
    check_accesses(accesses)
    # For NotNested alone.
    all_states(family, tuple([thing for thing, _ in accesses]))
    return tuple([written_back(rule, accesses) for rule in family])
