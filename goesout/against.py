"""A rule against the best that a cache with so many places can do."""

from goesout.errors import NoPath
from goesout.kinds import is_integer, is_row, is_whole
from goesout.mazes import explored, followed
from goesout.named import check_places
from goesout.ratios import ratio_in, shows_ratio_in
from goesout.rules import BLANK, begun, check_rule

# What a turn asks for, and lets go, beside the places of the rule.
OTHER = -1
NEW = -2
NOTHING = -2


class Contest:
    """A rule and the best cache as a maze: its nodes are the standings, its turns as told."""

    def __init__(self, one, places):
        check_rule(one)
        check_places(places, one[0])
        self.one = one
        self.places = places

    def first(self):
        """Return the standing at first."""
        row, label = begun(self.one)
        return label, row, 0

    def holds(self, thing):
        """Tell whether any value is a standing."""
        if not is_row(thing, 3):
            return False
        label, marks, others = thing
        if not is_whole(label, 0, len(self.one[1]) - 1) or not is_row(marks, self.one[0]):
            return False
        if not all([is_whole(mark, BLANK, 1) for mark in marks]):
            return False
        return is_whole(others, 0, self.places - marks.count(1))

    def leaving(self, node, number):
        """Return a list of what the best cache may let go when this is asked for, ascending."""
        _, marks, others = node
        if is_in_best(marks, number) or marks.count(1) + others < self.places:
            return [NOTHING]
        found = [place for place in range(len(marks)) if marks[place] == 1]
        return [OTHER] + found if others > 0 else found

    def taken(self, node, turn):
        """Return what is missed in the rule and in the best cache by a turn of a node, and the node then."""
        label, marks, others = node
        number, goes = turn
        one_misses = 1 if number < 0 else 0
        other_misses = 0 if is_in_best(marks, number) else 1
        found = list(marks)
        if goes >= 0:
            found[goes] = 0
        # An other one is one no more if it goes, or comes to the rule.
        others -= len([part for part in (number, goes) if part == OTHER])
        hits, out, comes = self.one[1][label]
        if number >= 0:
            place, (order, then) = number, hits[number]
        else:
            place = found.index(BLANK) if BLANK in found else out
            order, then = comes[place]
            # What goes from the rule, but not from the best cache, is there alone.
            others += 1 if found[place] == 1 else 0
        found[place] = 1
        return one_misses, other_misses, (then, tuple([found[at] for at in order]), others)

    def ways(self, node):
        """Return a list with what each turn does."""
        _, marks, others = node
        numbers = [place for place in range(len(marks)) if marks[place] != BLANK]
        numbers = [NEW, OTHER] + numbers if others > 0 else [NEW] + numbers
        turns = [(number, goes) for number in numbers for goes in self.leaving(node, number)]
        return [(turn,) + self.taken(node, turn) for turn in turns]

    def turned(self, node, turn):
        """Return what a turn does, or None for any other value."""
        if not is_row(turn, 2) or not is_integer(turn[0]) or not is_integer(turn[1]):
            return None
        number, goes = turn
        _, marks, others = node
        if not NEW <= number < len(marks) or (number == OTHER and others == 0):
            return None
        if (number >= 0 and marks[number] == BLANK) or goes not in self.leaving(node, number):
            return None
        return self.taken(node, turn)


def is_in_best(marks, number):
    """Tell whether what a number asks for is in the best cache."""
    return number == OTHER or (number >= 0 and marks[number] == 1)


def stood(rule, places, path):
    """Return the standing behind a path."""
    contest = Contest(rule, places)
    told = followed(contest, contest.first(), path)
    if told is None:
        raise NoPath("this is no path of the rule and the best cache")
    return told[2]


def against(rule, places):
    """Return ("ratio", (p, q), way, round, prices) or ("ever", way, round)."""
    return ratio_in(explored(Contest(rule, places), None))


def shows_against(rule, places, thing):
    """Tell whether any value shows the ratio of a rule to the best, or that there is none."""
    return shows_ratio_in(Contest(rule, places), thing)
