"""Rules, their states, and what one request does to a state."""

from goesout.errors import NoRule, NoState, NoThing
from goesout.kinds import is_row, is_whole

MOST_PLACES = 4
MOST_LABELS = 16
LAST_THING = 99
BLANK = -1


def is_rule(thing):
    """Tell whether any value is a rule."""
    if not is_row(thing, 2):
        return False
    places, labels = thing
    if not is_whole(places, 1, MOST_PLACES) or not isinstance(labels, tuple):
        return False
    # The length comes first, so that no long tuple is gone through.
    if not 1 <= len(labels) <= MOST_LABELS:
        return False
    return are_label_rows(labels, places)


def are_label_rows(labels, places):
    """Tell whether the parts of a tuple are label rows for so many places."""
    # This is called so often that its tests are written out, not calls.
    orders = []
    last = ()
    for row in labels:
        if not isinstance(row, tuple) or len(row) != 3:
            return False
        hits, out, comes = row
        if not isinstance(out, int) or out is True or out is False or not 0 <= out < places:
            return False
        if not isinstance(hits, tuple) or not isinstance(comes, tuple):
            return False
        if len(hits) != places or len(comes) != places:
            return False
        # What equals moves can differ from them only by bools, and many rules
        # have the same moves again and again.
        moves = hits + comes
        if moves != last and not look_like_moves(moves, places, len(labels), orders):
            return False
        if hold_bools(moves, places):
            return False
        last = moves
    return True


def look_like_moves(parts, places, many, orders):
    """Tell whether all parts are moves for so many places and labels, but for bools in them.

    The list orders is of those that were looked at before; new ones join it.
    """
    for move in parts:
        if not isinstance(move, tuple) or len(move) != 2:
            return False
        order, label = move
        if order not in orders:
            if not looks_like_order(order, places):
                return False
            orders.append(order)
        if not isinstance(label, int) or not 0 <= label < many:
            return False
    return True


def looks_like_order(thing, places):
    """Tell whether any value is an order of so many places, but for bools in it."""
    if not isinstance(thing, tuple) or len(thing) != places:
        return False
    for place in range(places):
        if place not in thing:
            return False
    return True


def hold_bools(moves, places):
    """Tell whether a bool stands for an integer in what else are moves."""
    if places != MOST_PLACES:
        for order, label in moves:
            for part in (*order, label):
                if part is True or part is False:
                    return True
        return False
    # The longest rules have four places: their parts by name take half the time.
    for (a, b, c, d), label in moves:
        if a is True or a is False or b is True or b is False or c is True or c is False:
            return True
        if d is True or d is False or label is True or label is False:
            return True
    return False


def is_thing(thing):
    """Tell whether any value is a thing."""
    return is_whole(thing, 0, LAST_THING)


def check_rule(rule):
    """Raise NoRule for what is no rule."""
    if not is_rule(rule):
        raise NoRule("this is no rule")


def check_thing(thing):
    """Raise NoThing for what is no thing."""
    if not is_thing(thing):
        raise NoThing("a thing is an integer from 0 to 99")


def beginning(rule):
    """Return the state at first: all places blank, label 0."""
    check_rule(rule)
    return begun(rule)


def begun(rule):
    """Return what beginning returns, for a rule that was checked before."""
    return (BLANK,) * rule[0], 0


def is_state(rule, thing):
    """Tell whether any value is a state of a rule."""
    check_rule(rule)
    return has_state(rule, thing)


def has_state(rule, thing):
    """Tell what is_state tells, of a rule that was checked before."""
    if not is_row(thing, 2):
        return False
    row, label = thing
    places, labels = rule
    return is_whole(label, 0, len(labels) - 1) and is_state_row(row, places)


def is_state_row(thing, places):
    """Tell whether any value is a row of different things and blanks."""
    if not isinstance(thing, tuple) or len(thing) != places:
        return False
    for part in thing:
        # Blank is the number just below the first thing.
        if not isinstance(part, int) or not BLANK <= part <= LAST_THING:
            return False
        if part is True or part is False or (part != BLANK and thing.count(part) > 1):
            return False
    return True


def things_in(row):
    """Return the ascending tuple of the things in the row of a state."""
    return tuple(sorted([part for part in row if part != BLANK]))


def asked(rule, state, thing):
    """Return whether a request is a hit, what goes, and the state then."""
    check_rule(rule)
    if not has_state(rule, state):
        raise NoState("this is no state of the rule")
    check_thing(thing)
    return step(rule, state, thing)


def step(rule, state, thing):
    """Return what asked returns, for arguments that were checked before."""
    row, label = state
    hits, out, comes = rule[1][label]
    if thing in row:
        order, then = hits[row.index(thing)]
        return True, None, (tuple([row[place] for place in order]), then)
    if BLANK in row:
        place, gone = row.index(BLANK), None
    else:
        place, gone = out, row[out]
    filled = list(row)
    filled[place] = thing
    order, then = comes[place]
    return False, gone, (tuple([filled[place] for place in order]), then)
