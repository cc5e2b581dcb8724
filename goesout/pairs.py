"""Two rules side by side: arrangements, moves and walks."""

from goesout.errors import NoArrangement, NoNumber, NoWalk
from goesout.kinds import is_row, is_whole
from goesout.mazes import explored, followed
from goesout.rules import BLANK, begun, check_rule, has_state, step

MOST_ARRANGEMENTS = 2000


class Pair:
    """Two rules as a maze: its nodes are the arrangements, its turns the move numbers."""

    def __init__(self, one, other):
        check_rule(one)
        check_rule(other)
        self.one = one
        self.other = other
        # Rows numbered before, by the rows as they were: many come again and again.
        self.rows = {}

    def first(self):
        """Return the arrangement at first."""
        return begun(self.one), begun(self.other)

    def holds(self, thing):
        """Tell whether any value is an arrangement."""
        if not is_row(thing, 2):
            return False
        if not has_state(self.one, thing[0]) or not has_state(self.other, thing[1]):
            return False
        return numbered(thing[0][0], thing[1][0]) == (thing[0][0], thing[1][0])

    def moved(self, node, number):
        """Return what moved returns, for arguments that were checked before."""
        is_hit, _, (row, label) = step(self.one, node[0], number)
        is_other_hit, _, (other_row, other_label) = step(self.other, node[1], number)
        key = row + other_row
        if key not in self.rows:
            self.rows[key] = numbered(row, other_row)
        row, other_row = self.rows[key]
        return is_hit, is_other_hit, ((row, label), (other_row, other_label))

    def ways(self, node):
        """Return a list with what each move number does."""
        found = []
        for number in range(newest_of(node) + 1):
            is_hit, is_other_hit, then = self.moved(node, number)
            found.append((number, 1 - is_hit, 1 - is_other_hit, then))
        return found

    def turned(self, node, turn):
        """Return what a move number does, or None for any other value."""
        if not is_whole(turn, 0, newest_of(node)):
            return None
        is_hit, is_other_hit, then = self.moved(node, turn)
        return 1 - is_hit, 1 - is_other_hit, then


def things_of(state, other_state):
    """Return a list of the different things of two states, as they come."""
    found = []
    for thing in state[0] + other_state[0]:
        if thing != BLANK and thing not in found:
            found.append(thing)
    return found


def numbered(row, other_row):
    """Return two rows with their things numbered as they come."""
    names = {BLANK: BLANK}
    for thing in row + other_row:
        if thing not in names:
            names[thing] = len(names) - 1
    return tuple([names[thing] for thing in row]), tuple([names[thing] for thing in other_row])


def newest_of(node):
    """Return the move number of an arrangement that asks for a new thing."""
    # Its things are numbered from 0 on, and blank is just below.
    return max(node[0][0] + node[1][0]) + 1


def start(one, other):
    """Return the arrangement at first."""
    return Pair(one, other).first()


def is_arrangement(one, other, thing):
    """Tell whether any value is an arrangement of two rules."""
    return Pair(one, other).holds(thing)


def moved(one, other, arrangement, number):
    """Return whether a move is a hit in one, and in other, and the arrangement then."""
    pair = Pair(one, other)
    if not pair.holds(arrangement):
        raise NoArrangement("this is no arrangement of the two rules")
    if not is_whole(number, 0, newest_of(arrangement)):
        raise NoNumber("this is no move number of the arrangement")
    return pair.moved(arrangement, number)


def walked(one, other, walk):
    """Return the arrangement behind a walk."""
    pair = Pair(one, other)
    told = followed(pair, pair.first(), walk)
    if told is None:
        raise NoWalk("this is no walk of the two rules")
    return told[2]


def played(one, other, walk):
    """Return the requests of a walk as things."""
    state, other_state = start(one, other)
    if not isinstance(walk, tuple):
        raise NoWalk("a walk is a tuple of move numbers")
    requests = []
    used = 0
    for number in walk:
        things = things_of(state, other_state)
        if not is_whole(number, 0, len(things)):
            raise NoWalk("each part of a walk is a move number of the arrangement then")
        if number == len(things):
            things.append(used)
            used += 1
        requests.append(things[number])
        state = step(one, state, things[number])[2]
        other_state = step(other, other_state, things[number])[2]
    return tuple(requests)


def arrangements(one, other):
    """Return the ascending tuple of all arrangements that walks lead to."""
    return tuple(sorted(explored(Pair(one, other), MOST_ARRANGEMENTS).nodes))
