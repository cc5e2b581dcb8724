"""Families: what their caches keep, as one line, and one list of what goes."""

from goesout.errors import NotNested
from goesout.kinds import is_whole
from goesout.named import check_family
from goesout.nested import is_within, nested
from goesout.rules import BLANK, LAST_THING, begun, step
from goesout.runs import check_requests


def family_nested(family):
    """Return ("nested",) or ("apart", places, walk)."""
    check_family(family)
    for at in range(len(family) - 1):
        told = nested(family[at], family[at + 1])
        if told[0] == "apart":
            return "apart", at + 1, told[1]
    return ("nested",)


def asked_of_all(family, states, thing, at):
    """Return a list of the states of all caches behind a request, which is the one numbered at.

    NotNested if a cache lacks what the next smaller one keeps then.
    """
    then = [step(rule, state, thing)[2] for rule, state in zip(family, states)]
    for smaller, greater in zip(then, then[1:]):
        if not is_within(smaller[0], greater[0]):
            raise NotNested(at)
    return then


def all_states(family, requests):
    """Return a list of the states of all caches, ahead of each request and behind all."""
    check_family(family)
    check_requests(requests)
    found = [[begun(rule) for rule in family]]
    for at, thing in enumerate(requests):
        found.append(asked_of_all(family, found[at], thing, at + 1))
    return found


def line_of(states):
    """Return the line of caches of which each keeps what the next smaller one keeps."""
    found = []
    for row, _ in states:
        found = found + [thing for thing in row if thing != BLANK and thing not in found]
    return tuple(found)


def line(family, requests):
    """Return the line behind requests."""
    return line_of(all_states(family, requests)[-1])


def going(family, requests):
    """Return the first list that says for all caches at once what goes."""
    ahead = things_ahead(family, requests)
    found = ()
    while len(found) < len(ahead):
        ready = [thing for thing in ahead if thing not in found and is_within(ahead[thing], found)]
        found = found + (min(ready),)
    return found


def shows_going(family, requests, thing):
    """Tell whether any value is a list that says for all caches at once what goes."""
    ahead = things_ahead(family, requests)
    if not isinstance(thing, tuple) or len(thing) != len(ahead):
        return False
    if not all([is_whole(part, 0, LAST_THING) and part in ahead for part in thing]):
        return False
    if len(set(thing)) != len(thing):
        return False
    return all([is_within(ahead[part], thing[:at]) for at, part in enumerate(thing)])


def things_ahead(family, requests):
    """Return for each thing of the line what has to stand ahead of it in a list of what goes."""
    states = all_states(family, requests)[-1]
    # There is such a list if a new thing, such as this one that no request
    # asks for, leaves the caches nested. What else a cache misses is in some
    # greater one, and lets the same thing go.
    asked_of_all(family, states, LAST_THING + 1, len(requests) + 1)
    found = {thing: () for thing in line_of(states)}
    for rule, (row, label) in zip(family, states):
        if BLANK not in row:
            goes = row[rule[1][label][1]]
            # Greater caches come later, and keep all that smaller ones keep.
            found[goes] = tuple([thing for thing in row if thing != goes])
    return found


def distances(family, requests):
    """Return for each request its place in the line ahead of it, or 0."""
    states = all_states(family, requests)
    lines = [line_of(states[at]) for at in range(len(requests))]
    return tuple([row.index(thing) + 1 if thing in row else 0 for row, thing in zip(lines, requests)])


def curve(family, requests):
    """Return the numbers of misses of all caches."""
    found = distances(family, requests)
    return tuple([len([far for far in found if far == 0 or far > places])
                  for places in range(1, len(family) + 1)])
