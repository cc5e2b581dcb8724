"""Rules, wrong values and a comparison that several tests use."""

import unittest


def plain(places, out, come, hit=None):
    """Return a rule of one label, with orders by place."""
    comes = tuple((order, 0) for order in come)
    hits = comes if hit is None else tuple((order, 0) for order in hit)
    return (places, ((hits, out, comes),))


FRONT_2 = ((0, 1), (1, 0))
FRONT_3 = ((0, 1, 2), (1, 0, 2), (2, 0, 1))
STAY_2 = ((0, 1),) * 2
STAY_3 = ((0, 1, 2),) * 3

ONE = plain(1, 0, ((0,),))
RECENT_2 = plain(2, 1, FRONT_2)
RECENT_3 = plain(3, 2, FRONT_3)
QUEUE_2 = plain(2, 1, FRONT_2, STAY_2)
QUEUE_3 = plain(3, 2, FRONT_3, STAY_3)
NEWEST_2 = plain(2, 0, FRONT_2)

# Each move has an order of its own that is not its own reverse, or a label
# of its own, so that no two moves can be taken for each other.
TURN, BACK, STAY = (1, 2, 0), (2, 0, 1), (0, 1, 2)
MIXED = (3, (
    (((TURN, 1), (BACK, 0), (STAY, 2)), 1, ((BACK, 2), (STAY, 1), (TURN, 0))),
    (((STAY, 0), (TURN, 2), ((0, 2, 1), 1)), 2, ((TURN, 1), (BACK, 0), ((2, 1, 0), 2))),
    (((BACK, 2), ((1, 0, 2), 1), (TURN, 0)), 0, (((0, 2, 1), 0), (TURN, 2), (STAY, 1))),
))


def many_row(number, orders):
    """Return one of 16 label rows; each of them names the last one, too."""
    places, many = len(orders[0]), len(orders)
    hits = tuple((orders[(number + k) % many], (number * 3 + k) % 16) for k in range(places))
    comes = tuple((orders[(number + 2 * k) % many], (number + 5 * k) % 16) for k in range(places))
    return (hits, number % places, comes[:-1] + ((orders[number % many], 15),))


def many_rows(orders):
    """Return a rule with 16 labels, the most there may be."""
    return (len(orders[0]), tuple(many_row(number, orders) for number in range(16)))


NARROW = many_rows(FRONT_2)
WIDE = many_rows(((0, 1, 2, 3), (3, 0, 1, 2), (1, 0, 3, 2), (2, 3, 1, 0), (1, 2, 3, 0)))

RULES = (ONE, RECENT_2, RECENT_3, QUEUE_2, QUEUE_3, NEWEST_2, MIXED, NARROW, WIDE)

# Values of every kind that callers may hand in; none of them is a rule, a
# state, a thing or requests. -2, 100 and 17 are beyond every range.
ODD = (
    None, True, False, -2, -1, 100, 10 ** 13 - 1, -10 ** 13 + 1, "", "0", "rule\n",
    [], {}, [0], {0: 0}, (None,), ((),), (((),),), [[], {}], ("0", 0), (0, (0, "0")),
    {"places": 2, "labels": ((), ())}, (2, [], {}), ([(0,)], {0: (0,)}, None),
)

# What may stand in the place of any part, an integer or a tuple, to make
# the whole wrong wherever it stands.
WRONG_PARTS = (None, True, False, "", "0", [], {}, [0], {0: 0}, -2, 100, (None,), ((0,),))


def nested_deep(depth):
    """Return a value that is nested so many deep."""
    value = 0
    for number in range(depth):
        value = ((value,), [value], {"a": value})[number % 3]
    return value


def replaced(value, wrong):
    """Return each value with one part, or the whole, replaced by wrong."""
    found = [wrong]
    if isinstance(value, tuple):
        for at, part in enumerate(value):
            found += [value[:at] + (other,) + value[at + 1:] for other in replaced(part, wrong)]
    return found


def reshaped(value):
    """Return each value in which one tuple, at any depth, has another shape.

    A list stands for it, it is held by a tuple, or a part of it is left out,
    or stands twice.
    """
    if not isinstance(value, tuple):
        return []
    found = [list(value), (value,), value + (0,), (None,) + value]
    for at, part in enumerate(value):
        found.append(value[:at] + value[at + 1:])
        found.append(value[:at] + (part,) + value[at:])
        found += [value[:at] + (other,) + value[at + 1:] for other in reshaped(part)]
    return found


def kinds(value):
    """Return the value with the kind of each part beside it.

    So values that Python holds for equal, such as 1 and True, differ.
    """
    if isinstance(value, (tuple, list)):
        return (type(value).__name__, [kinds(part) for part in value])
    if isinstance(value, dict):
        return ("dict", [(kinds(key), kinds(value[key])) for key in value])
    return (type(value).__name__, value)


class Case(unittest.TestCase):
    def assert_same(self, found, expected):
        """Equal, and of the same kinds throughout."""
        self.assertEqual(kinds(found), kinds(expected))
