"""Whether a greater cache always keeps what a smaller one keeps."""

from goesout.errors import NoPlaces
from goesout.kinds import is_row
from goesout.mazes import explored, followed, is_closed, way_to
from goesout.pairs import MOST_ARRANGEMENTS, Pair
from goesout.rules import BLANK


def nesting(one, other):
    """Return two rules as a pair, if other has no fewer places than one."""
    pair = Pair(one, other)
    if other[0] < one[0]:
        raise NoPlaces("the second rule has fewer places than the first one")
    return pair


def is_within(row, other_row):
    """Tell whether everything in a row is in the other one, too."""
    for thing in row:
        if thing != BLANK and thing not in other_row:
            return False
    return True


def keeps_all(arrangement):
    """Tell whether everything in the first row of an arrangement is in the second one."""
    return is_within(arrangement[0][0], arrangement[1][0])


def fits_nested(arrangement, _):
    """Tell whether an arrangement is as it is told of nested rules, wherever it leads."""
    return keeps_all(arrangement)


def nested(one, other):
    """Return ("nested", arrangements) or ("apart", walk)."""
    chart = explored(nesting(one, other), MOST_ARRANGEMENTS)
    for at, node in enumerate(chart.nodes):
        if not keeps_all(node):
            return "apart", way_to(chart, at)
    return "nested", tuple(sorted(chart.nodes))


def shows_nested(one, other, thing):
    """Tell whether any value shows that two rules are nested, or that they are apart."""
    pair = nesting(one, other)
    if not is_row(thing, 2):
        return False
    word, told = thing
    if word == "nested":
        return is_closed(pair, told, fits_nested)
    if word != "apart":
        return False
    behind = followed(pair, pair.first(), told)
    return behind is not None and not keeps_all(behind[2])
