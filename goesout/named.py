"""Rules with names, and families of rules."""

from goesout.errors import NoFamily, NoPlaces, NoRule
from goesout.kinds import is_row, is_whole
from goesout.rules import MOST_PLACES, is_rule


def check_places(places, most=MOST_PLACES):
    """Raise NoPlaces for what is no number of places from 1 to most."""
    if not is_whole(places, 1, most):
        raise NoPlaces(f"the number of places is an integer from 1 to {most}")


def kept_order(places):
    """Return the order by which nothing moves."""
    return tuple(range(places))


def brought(places, place, to):
    """Return the order by which what is in a place comes to a place ahead of it.

    All from there on, up to the place itself, go on by one.
    """
    order = kept_order(places)
    return order[:to] + (place,) + order[to:place] + order[place + 1:]


def fronts(places):
    """Return a list of the front orders of all places."""
    return [brought(places, place, 0) for place in range(places)]


def one_label(places, hits, out, comes):
    """Return the rule of one label with these orders for its places."""
    row = (tuple([(order, 0) for order in hits]), out, tuple([(order, 0) for order in comes]))
    return (places, (row,))


def recent(places):
    """Return the rule by which goes what was asked for longest ago."""
    check_places(places)
    return one_label(places, fronts(places), places - 1, fronts(places))


def queue(places):
    """Return the rule by which goes what came first."""
    check_places(places)
    return one_label(places, [kept_order(places)] * places, places - 1, fronts(places))


def newest(places):
    """Return the rule by which goes what was asked for last."""
    check_places(places)
    return one_label(places, fronts(places), 0, fronts(places))


def segments(trial, tried):
    """Return the rule whose first places are for things that were hit."""
    if not is_whole(trial, 1, MOST_PLACES) or not is_whole(tried, 1, MOST_PLACES - trial):
        raise NoPlaces("trial and tried are at least 1, and together at most 4")
    places = trial + tried
    # Only while places are blank does something come to a place below tried.
    early = [kept_order(places)] * tried
    late = [brought(places, place, tried) for place in range(tried, places)]
    return one_label(places, fronts(places), places - 1, early + late)


def tree(places):
    """Return the rule that halves its places again and again, for 1, 2 or 4 places."""
    check_places(places)
    if places == 3:
        raise NoPlaces("a tree has 1, 2 or 4 places")
    orders = [halved(places, place) for place in range(places)]
    return one_label(places, orders, 0, orders)


def halved(places, place):
    """Return the order by which the half with a place comes last, and so within it."""
    if places == 1:
        return (0,)
    half = places // 2
    begin = place - place % half
    rest = tuple([at for at in range(places) if not begin <= at < begin + half])
    return rest + tuple([begin + at for at in halved(half, place - begin)])


def chance(places):
    """Return the rule by which what was hit since it was passed over is passed over."""
    check_places(places)
    return (places, tuple([chance_row(places, label) for label in range(1 << places)]))


def chance_row(places, label):
    """Return the label row for the places that a label marks."""
    order = kept_order(places)
    marked = [place for place in order if (label >> place) & 1]
    is_full = len(marked) == places
    out = 0 if is_full else min([place for place in order if place not in marked])
    hits = tuple([(order, label | (1 << place)) for place in order])
    comes = []
    for place in order:
        behind = 0 if is_full else label >> (place + 1)
        comes.append((order[place + 1:] + order[:place + 1], behind))
    return (hits, out, tuple(comes))


def family(rule_of, most):
    """Return the family of the rules with 1 to most places of queue, recent, newest or chance."""
    if rule_of not in (queue, recent, newest, chance):
        raise NoRule("a family is one of queue, recent, newest or chance")
    check_places(most)
    return tuple([rule_of(places) for places in range(1, most + 1)])


def is_family(thing):
    """Tell whether any value is a family."""
    if not isinstance(thing, tuple) or not 1 <= len(thing) <= MOST_PLACES:
        return False
    # The number of places comes first, so that few rules are gone through in vain.
    for at, rule in enumerate(thing):
        if not is_row(rule, 2) or not is_whole(rule[0], at + 1, at + 1) or not is_rule(rule):
            return False
    return True


def check_family(thing):
    """Raise NoFamily for what is no family."""
    if not is_family(thing):
        raise NoFamily("a family is a tuple of 1 to 4 rules with 1, 2, .. places")
