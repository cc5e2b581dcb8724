"""Whether two rules hit at the same requests, and the smallest rule like a rule."""

from goesout.kinds import is_row
from goesout.mazes import explored, followed, is_closed, way_to
from goesout.pairs import MOST_ARRANGEMENTS, Pair
from goesout.rules import check_rule


def alike(one, other):
    """Return ("alike", arrangements) or ("apart", walk)."""
    chart = explored(Pair(one, other), MOST_ARRANGEMENTS)
    for at, edges in enumerate(chart.edges):
        for number, one_misses, other_misses, _ in edges:
            if one_misses != other_misses:
                return "apart", way_to(chart, at) + (number,)
    return "alike", tuple(sorted(chart.nodes))


def fits_alike(_, ways):
    """Tell whether each way from an arrangement is a hit in both or in none."""
    return all([way[1] == way[2] for way in ways])


def shows_alike(one, other, thing):
    """Tell whether any value shows that two rules are alike, or that they are apart."""
    pair = Pair(one, other)
    if not is_row(thing, 2):
        return False
    word, told = thing
    if word == "alike":
        return is_closed(pair, told, fits_alike)
    return word == "apart" and ends_apart(pair, told)


def ends_apart(pair, walk):
    """Tell whether any value is a walk whose last move is a hit in just one."""
    if not isinstance(walk, tuple) or walk == ():
        return False
    behind = followed(pair, pair.first(), walk[:-1])
    if behind is None:
        return False
    told = pair.turned(behind[2], walk[-1])
    return told is not None and told[0] != told[1]


def trimmed(rule):
    """Return the rule with as few labels as do the same."""
    check_rule(rule)
    rows = rule[1]
    same = groups(rows)
    # Of each group the label that is named first stands for all.
    numbers = {same[0]: 0}
    firsts = [0]
    done = 0
    while done < len(firsts):
        named = labels_in(rows[firsts[done]])
        for label in named:
            if same[label] not in numbers:
                numbers[same[label]] = len(firsts)
                firsts.append(label)
        done += 1
    return (rule[0], tuple([renamed(rows[first], same, numbers) for first in firsts]))


def renamed(row, same, numbers):
    """Return a label row with the numbers of the groups of its labels."""
    hits, out, comes = row
    return (tuple([(order, numbers[same[label]]) for order, label in hits]), out,
            tuple([(order, numbers[same[label]]) for order, label in comes]))


def labels_in(row):
    """Return a list of the labels in the moves of a label row, hits before comes."""
    return [label for _, label in row[0] + row[2]]


def groups(rows):
    """Return a list with a number for each label, the same one for labels that do the same."""
    found = numbers_of([(row[1], tuple([order for order, _ in row[0] + row[2]])) for row in rows])
    many = 0
    # Labels that differ by where they lead come apart, until none do.
    while many < len(set(found)):
        many = len(set(found))
        then = [tuple([found[label] for label in labels_in(row)]) for row in rows]
        found = numbers_of(list(zip(found, then)))
    return found


def numbers_of(keys):
    """Return a list with a number for each key, the same one for equal keys."""
    numbers = {}
    for key in keys:
        if key not in numbers:
            numbers[key] = len(numbers)
    return [numbers[key] for key in keys]
