"""Rules, wrong values, slow ways to find things, and a comparison that several tests use."""

import copy
import functools
import itertools
import random
import unittest

from goesout.errors import GoesError, NoRule, NothingDone, TooMany
from goesout.rules import asked, beginning


def plain(places, out, come, hit=None):
    """Return a rule of one label, with orders by place."""
    comes = tuple((order, 0) for order in come)
    hits = comes if hit is None else tuple((order, 0) for order in hit)
    return (places, ((hits, out, comes),))


FRONT_2 = ((0, 1), (1, 0))
FRONT_3 = ((0, 1, 2), (1, 0, 2), (2, 0, 1))
FRONT_4 = ((0, 1, 2, 3), (1, 0, 2, 3), (2, 0, 1, 3), (3, 0, 1, 2))
STAY_2 = ((0, 1),) * 2
STAY_3 = ((0, 1, 2),) * 3
STAY_4 = ((0, 1, 2, 3),) * 4

ONE = plain(1, 0, ((0,),))
RECENT_2 = plain(2, 1, FRONT_2)
RECENT_3 = plain(3, 2, FRONT_3)
QUEUE_2 = plain(2, 1, FRONT_2, STAY_2)
QUEUE_3 = plain(3, 2, FRONT_3, STAY_3)
QUEUE_4 = plain(4, 3, FRONT_4, STAY_4)
NEWEST_2 = plain(2, 0, FRONT_2)

# Each move has an order of its own that is not its own reverse, or a label
# of its own, so that no two moves can be taken for each other.
TURN, BACK, STAY = (1, 2, 0), (2, 0, 1), (0, 1, 2)
MIXED = (3, (
    (((TURN, 1), (BACK, 0), (STAY, 2)), 1, ((BACK, 2), (STAY, 1), (TURN, 0))),
    (((STAY, 0), (TURN, 2), ((0, 2, 1), 1)), 2, ((TURN, 1), (BACK, 0), ((2, 1, 0), 2))),
    (((BACK, 2), ((1, 0, 2), 1), (TURN, 0)), 0, (((0, 2, 1), 0), (TURN, 2), (STAY, 1))),
))


def many_row(number, orders):
    """Return one of 16 label rows; each of them names the last one, too."""
    places, many = len(orders[0]), len(orders)
    hits = tuple((orders[(number + k) % many], (number * 3 + k) % 16) for k in range(places))
    comes = tuple((orders[(number + 2 * k) % many], (number + 5 * k) % 16) for k in range(places))
    return (hits, number % places, comes[:-1] + ((orders[number % many], 15),))


def many_rows(orders):
    """Return a rule with 16 labels, the most there may be."""
    return (len(orders[0]), tuple(many_row(number, orders) for number in range(16)))


NARROW = many_rows(FRONT_2)
WIDE = many_rows(((0, 1, 2, 3), (3, 0, 1, 2), (1, 0, 3, 2), (2, 3, 1, 0), (1, 2, 3, 0)))

RULES = (ONE, RECENT_2, RECENT_3, QUEUE_2, QUEUE_3, NEWEST_2, MIXED, NARROW, WIDE)


def made_rule(places, many, seed):
    """Return a rule with so many labels, always the same for a seed."""
    source = random.Random(seed)
    orders = list(itertools.permutations(range(places)))

    def moves():
        return tuple((source.choice(orders), source.randrange(many)) for _ in range(places))
    return (places, tuple((moves(), source.randrange(places), moves()) for _ in range(many)))


# Pairs of all kinds of rules that have few arrangements: named and made up,
# with as many places, fewer and more, nested and apart.
PAIRS = (
    (ONE, ONE), (ONE, RECENT_2), (RECENT_2, ONE), (RECENT_2, RECENT_3), (RECENT_3, RECENT_2),
    (QUEUE_2, QUEUE_3), (QUEUE_3, QUEUE_2), (QUEUE_2, RECENT_2), (RECENT_2, QUEUE_2), (NEWEST_2, QUEUE_3),
    (QUEUE_3, NEWEST_2), (NEWEST_2, RECENT_3), (MIXED, RECENT_2), (RECENT_2, MIXED), (MIXED, MIXED),
) + tuple((made_rule(2, 1 + seed % 2, seed), made_rule(2 + seed % 2, 1 + seed % 3, -seed))
          for seed in range(1, 13))

def by_turns(places, outs):
    """Return a rule with things as recent has them, that lets go the first or the last by turns.

    outs has for each label True where the first one goes.
    """
    orders = [(place,) + tuple(other for other in range(places) if other != place) for place in range(places)]
    moves = [tuple((order, (label + 1) % len(outs)) for order in orders) for label in range(len(outs))]
    return (places, tuple((moves[label], 0 if outs[label] else places - 1, moves[label])
                          for label in range(len(outs))))


def in_time(first, then, after):
    """Return a rule that does for so many requests what one does, and what another does from then on."""
    rows = [(first if label < after else then)[1][0] for label in range(after + 1)]
    return (first[0], tuple((tuple((order, min(label + 1, after)) for order, _ in hits), out,
                             tuple((order, min(label + 1, after)) for order, _ in comes))
                            for label, (hits, out, comes) in enumerate(rows)))


# Pairs that differ for some time only, so that the excess has a bound.
LATE_PAIRS = (
    (in_time(NEWEST_2, RECENT_2, 5), RECENT_2), (RECENT_2, in_time(NEWEST_2, RECENT_2, 5)),
    (in_time(QUEUE_2, RECENT_2, 7), RECENT_2), (RECENT_2, in_time(QUEUE_2, RECENT_2, 3)),
    (RECENT_3, in_time(QUEUE_3, RECENT_3, 5)),
)


def made_requests(seed, things, many=60):
    """Return so many requests of so many things, always the same for a seed."""
    source = random.Random(seed)
    return tuple(source.choice(range(99, 99 - things, -1)) for _ in range(many))


# Values of every kind that callers may hand in; none of them is a rule, a
# state, a thing or requests. -2, 100 and 17 are beyond every range.
ODD = (
    None, True, False, -2, -1, 100, 10 ** 13 - 1, -10 ** 13 + 1, "", "0", "rule\n",
    [], {}, [0], {0: 0}, (None,), ((),), (((),),), [[], {}], ("0", 0), (0, (0, "0")),
    {"places": 2, "labels": ((), ())}, (2, [], {}), ([(0,)], {0: (0,)}, None),
)

# What may stand in the place of any part, an integer or a tuple, to make
# the whole wrong wherever it stands.
WRONG_PARTS = (None, True, False, "", "0", [], {}, [0], {0: 0}, -2, 100, (None,), ((0,),))


def nested_deep(depth):
    """Return a value that is nested so many deep."""
    value = 0
    for number in range(depth):
        value = ((value,), [value], {"a": value})[number % 3]
    return value


def replaced(value, wrong):
    """Return each value with one part, or the whole, replaced by wrong."""
    found = [wrong]
    if isinstance(value, tuple):
        for at, part in enumerate(value):
            found += [value[:at] + (other,) + value[at + 1:] for other in replaced(part, wrong)]
    return found


def reshaped(value):
    """Return each value in which one tuple, at any depth, has another shape.

    A list stands for it, it is held by a tuple, or a part of it is left out,
    or stands twice.
    """
    if not isinstance(value, tuple):
        return []
    found = [list(value), (value,), value + (0,), (None,) + value]
    for at, part in enumerate(value):
        found.append(value[:at] + value[at + 1:])
        found.append(value[:at] + (part,) + value[at:])
        found += [value[:at] + (other,) + value[at + 1:] for other in reshaped(part)]
    return found


def by_names(state, other):
    """Return two states, with their things numbered as they come."""
    things = [thing for thing in state[0] + other[0] if thing != -1]
    names = {thing: len(set(things[:things.index(thing)])) for thing in things}
    return tuple((tuple(names.get(thing, -1) for thing in row), label) for row, label in (state, other))


def slow_moves(one, other, arrangement):
    """Return a list with (is_hit, is_hit, arrangement) for each move number."""
    state, other_state = arrangement
    found = []
    for thing in range(len(set(state[0] + other_state[0]) - {-1}) + 1):
        is_hit, _, then = asked(one, state, thing)
        is_other_hit, _, other_then = asked(other, other_state, thing)
        found.append((is_hit, is_other_hit, by_names(then, other_then)))
    return found


def slow_graph(one, other, begin=None):
    """Return a dict with what slow_moves returns, for all to which an arrangement leads."""
    begin = begin or (beginning(one), beginning(other))
    found, left = {}, [begin]
    while left:
        at = left.pop()
        if at not in found:
            found[at] = slow_moves(one, other, at)
            left += [then for _, _, then in found[at]]
    return found


def slow_walk(one, other, walk, begin=None):
    """Return a list with what each move of a walk does, or None if any value is no walk."""
    at, found = begin or (beginning(one), beginning(other)), []
    if type(walk) is not tuple:
        return None
    for number in walk:
        moves = slow_moves(one, other, at)
        if type(number) is not int or not 0 <= number < len(moves):
            return None
        found.append(moves[number])
        at = moves[number][2]
    return found


@functools.lru_cache(None)
def all_arrangements(one, other):
    """Return a dict with what slow_moves returns, by the text of each arrangement.

    The text of any value shows what it is, with all kinds.
    """
    found = {}
    for rows in itertools.product(*(itertools.product(range(-1, one[0] + other[0]), repeat=rule[0])
                                    for rule in (one, other))):
        if all(row.count(thing) < 2 for row in rows for thing in row if thing >= 0):
            for labels in itertools.product(range(len(one[1])), range(len(other[1]))):
                at = tuple(zip(rows, labels))
                if by_names(*at) == at:
                    found[repr(at)] = slow_moves(one, other, at)
    return found


def all_walks(one, other, longest):
    """Yield all walks of up to so many moves, with their moves, the shortest ones first."""
    graph, row = slow_graph(one, other), [((), [(None, None, (beginning(one), beginning(other)))])]
    for _ in range(longest + 1):
        yield from ((walk, moves[1:]) for walk, moves in row)
        row = [(walk + (number,), moves + [move]) for walk, moves in row
               for number, move in enumerate(graph[moves[-1][2]])]


def slow_round(one, other, way, turns):
    """Return what slow_walk returns for a round behind a way, or None."""
    moves = slow_walk(one, other, way)
    if moves is None:
        return None
    at = moves[-1][2] if moves else (beginning(one), beginning(other))
    told = slow_walk(one, other, turns, at)
    return told if told and told[-1][2] == at else None


def slow_prices(one, other, thing, worth, most=None):
    """Tell whether any value is prices for what moves are worth, and none above most."""
    if type(thing) is not tuple or not all(type(pair) is tuple and len(pair) == 2 for pair in thing):
        return False
    known, prices = all_arrangements(one, other), {repr(pair[0]): pair[1] for pair in thing}
    if len(prices) < len(thing) or not set(prices) <= set(known):
        return False
    if not all(type(price) is int and (most is None or price <= most) for price in prices.values()):
        return False
    if prices.get(repr((beginning(one), beginning(other)))) != 0:
        return False
    return all(repr(move[2]) in prices and prices[repr(move[2])] >= prices[at] + worth(move)
               for at in prices for move in known[at])


def kinds(value):
    """Return the value with the kind of each part beside it.

    So values that Python holds for equal, such as 1 and True, differ.
    """
    if isinstance(value, (tuple, list)):
        return (type(value).__name__, [kinds(part) for part in value])
    if isinstance(value, dict):
        return ("dict", [(kinds(key), kinds(value[key])) for key in value])
    return (type(value).__name__, value)


def undone(made, told):
    """Take back all requests of a cache or a line; return what is told of it each time."""
    found = []
    while True:
        try:
            found.append((made.undo(), told(made)))
        except NothingDone:
            return found


class Case(unittest.TestCase):
    def assert_same(self, found, expected):
        """Equal, and of the same kinds throughout."""
        self.assertEqual(kinds(found), kinds(expected))

    def assert_unmodified(self, value, calls):
        """None of the calls, which may be refused, modifies the value."""
        before = copy.deepcopy(value)
        for call in calls:
            try:
                call()
            except GoesError:
                pass
            self.assert_same(value, before)

    def assert_unchanged(self, made, told, call, error):
        """The call raises just this error, and a cache or a line is as it was before, also for undo."""
        before, past = told(made), undone(copy.deepcopy(made), told)
        with self.assertRaises(error) as caught:
            call()
        self.assertIs(type(caught.exception), error)
        self.assert_same(told(made), before)
        self.assert_same(undone(copy.deepcopy(made), told), past)
        return caught.exception

    def assert_shows(self, shows, slow_shows, one, other, good):
        """What shows a thing and what is like it, with wrong parts and shapes, is told apart.

        slow_shows tells it by another way than the program.
        """
        self.assertIs(shows(one, other, good), True)
        values = [value for wrong in WRONG_PARTS for value in replaced(good, wrong)] + reshaped(good)
        self.assertGreater(len(values), 50)
        for value in values:
            self.assertIs(shows(one, other, value), slow_shows(one, other, value))
        for value in replaced(good, False) + replaced(good, True):
            self.assertIs(shows(one, other, value), False)

    def assert_rules_first(self, function, shows):
        """What is no rule, in the place of either one, is refused ahead of all else."""
        for value in ODD + (nested_deep(20),):
            for one, other in ((value, ONE), (ONE, value), (QUEUE_3, value), (value, value)):
                self.assertRaises(NoRule, function, one, other)
                self.assertRaises(NoRule, shows, one, other, value)
        for value in replaced(NEWEST_2, True):
            self.assertRaises(NoRule, function, QUEUE_2, value)
            self.assertRaises(NoRule, shows, value, ONE, None)
        self.assertRaises(NoRule, function, WIDE, None)

    def assert_too_many(self, function):
        """All arrangements are counted ahead of all else that is looked for."""
        for one, other in ((QUEUE_4, made_rule(4, 16, 1)), (QUEUE_4, made_rule(4, 9, 273))):
            with self.assertRaises(TooMany) as caught:
                function(one, other)
            self.assert_same(caught.exception.limit, 2000)
        # These two have 2,000.
        self.assertIn(function(QUEUE_4, made_rule(4, 9, 443))[0], ("apart", "ever", "ratio"))
