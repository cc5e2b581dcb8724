"""Rules, their states, and what one request does to a state."""

from goesout.errors import NoRule, NoState, NoThing
from goesout.kinds import is_row, is_whole

MOST_PLACES = 4
MOST_LABELS = 16
LAST_THING = 99
BLANK = -1


def is_rule(thing):
    """Tell whether any value is a rule."""
    if not is_row(thing, 2):
        return False
    places, labels = thing
    if not is_whole(places, 1, MOST_PLACES) or not isinstance(labels, tuple):
        return False
    # The length comes first, so that no long tuple is gone through.
    if not 1 <= len(labels) <= MOST_LABELS:
        return False
    return all([is_label_row(part, places, len(labels)) for part in labels])


def is_label_row(thing, places, many):
    """Tell whether any value is a label row for so many places and labels."""
    if not is_row(thing, 3):
        return False
    hits, out, comes = thing
    if not is_whole(out, 0, places - 1):
        return False
    return are_moves(hits, places, many) and are_moves(comes, places, many)


def are_moves(thing, places, many):
    """Tell whether any value is a tuple with a move for each place."""
    return is_row(thing, places) and all([is_move(part, places, many) for part in thing])


def is_move(thing, places, many):
    """Tell whether any value is a move for so many places and labels."""
    if not is_row(thing, 2):
        return False
    order, label = thing
    return is_order(order, places) and is_whole(label, 0, many - 1)


def is_order(thing, places):
    """Tell whether any value is an order of so many places."""
    if not is_row(thing, places):
        return False
    if not all([is_whole(part, 0, places - 1) for part in thing]):
        return False
    return len(set(thing)) == places


def is_thing(thing):
    """Tell whether any value is a thing."""
    return is_whole(thing, 0, LAST_THING)


def check_rule(rule):
    """Raise NoRule for what is no rule."""
    if not is_rule(rule):
        raise NoRule("this is no rule")


def check_thing(thing):
    """Raise NoThing for what is no thing."""
    if not is_thing(thing):
        raise NoThing("a thing is an integer from 0 to 99")


def beginning(rule):
    """Return the state at first: all places blank, label 0."""
    check_rule(rule)
    return begun(rule)


def begun(rule):
    """Return what beginning returns, for a rule that was checked before."""
    return (BLANK,) * rule[0], 0


def is_state(rule, thing):
    """Tell whether any value is a state of a rule."""
    check_rule(rule)
    return has_state(rule, thing)


def has_state(rule, thing):
    """Tell what is_state tells, of a rule that was checked before."""
    if not is_row(thing, 2):
        return False
    row, label = thing
    places, labels = rule
    return is_state_row(row, places) and is_whole(label, 0, len(labels) - 1)


def is_state_row(thing, places):
    """Tell whether any value is a row of different things and blanks."""
    if not is_row(thing, places):
        return False
    # Blank is the number just below the first thing.
    if not all([is_whole(part, BLANK, LAST_THING) for part in thing]):
        return False
    things = [part for part in thing if part != BLANK]
    return len(set(things)) == len(things)


def things_in(row):
    """Return the ascending tuple of the things in the row of a state."""
    return tuple(sorted([part for part in row if part != BLANK]))


def arranged(row, order):
    """Return the row in which place i has what place order[i] had."""
    return tuple([row[place] for place in order])


def asked(rule, state, thing):
    """Return whether a request is a hit, what goes, and the state then."""
    check_rule(rule)
    if not has_state(rule, state):
        raise NoState("this is no state of the rule")
    check_thing(thing)
    return step(rule, state, thing)


def step(rule, state, thing):
    """Return what asked returns, for arguments that were checked before."""
    row, label = state
    hits, out, comes = rule[1][label]
    if thing in row:
        order, then = hits[row.index(thing)]
        return True, None, (arranged(row, order), then)
    place = row.index(BLANK) if BLANK in row else out
    gone = row[place] if row[place] != BLANK else None
    filled = row[:place] + (thing,) + row[place + 1:]
    order, then = comes[place]
    return False, gone, (arranged(filled, order), then)
