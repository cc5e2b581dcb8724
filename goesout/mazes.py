"""Mazes: nodes, and turns that lead from each of them to others.

Two rules side by side are a maze, and so are a rule and the best cache. An
object of a maze has these methods:

- `first()`: the node at which all ways begin;
- `holds(thing)`: whether any value is a node;
- `ways(node)`: a list with a tuple (turn, one_misses, other_misses, node) for
  each turn of a node, in ascending order: what is missed, and the node then;
- `turned(node, turn)`: such a tuple without the turn, or None if any value
  is no turn of the node.
"""

from goesout.errors import TooMany


class Chart:
    """All nodes that ways lead to, by numbers in the order in which they are found.

    edges has for each node what its ways tell, with the number of the node
    then; came has the number of a node and its turn by which another one was
    found first, or None for the first node.
    """

    def __init__(self, nodes, edges, came):
        self.nodes = nodes
        self.edges = edges
        self.came = came


def explored(maze, limit):
    """Return the chart of a maze; TooMany if there are more nodes than the limit, if it is not None."""
    nodes, edges, came = [maze.first()], [], [None]
    numbers = {nodes[0]: 0}
    while len(edges) < len(nodes):
        at = len(edges)
        ways = maze.ways(nodes[at])
        found = []
        for turn, one_misses, other_misses, node in ways:
            then = numbers.get(node)
            if then is None:
                if len(nodes) == limit:
                    raise TooMany(limit)
                then = len(nodes)
                numbers[node] = then
                nodes.append(node)
                came.append((at, turn))
            found.append((turn, one_misses, other_misses, then))
        edges.append(found)
    return Chart(nodes, edges, came)


def way_to(chart, at):
    """Return the first of the shortest ways to the node with a number."""
    return way_back(chart.came, at)


def way_back(came, at):
    """Return the turns of the way on which a node was found."""
    turns = []
    while came[at] is not None:
        at, turn = came[at]
        turns.append(turn)
    return tuple(turns[::-1])


def followed(maze, node, turns):
    """Return what is missed in one and in other by turns, and the node then.

    Or None if any value is no tuple of turns, each of the node at that time.
    """
    if not isinstance(turns, tuple):
        return None
    one_sum, other_sum = 0, 0
    for turn in turns:
        told = maze.turned(node, turn)
        if told is None:
            return None
        one_misses, other_misses, node = told
        one_sum = one_sum + one_misses
        other_sum = other_sum + other_misses
    return one_sum, other_sum, node


def is_closed(maze, thing, fits):
    """Tell whether any value is a tuple of different nodes that no way leaves.

    The first node is among them, and the function fits, which is called with
    a node and its ways, tells True of each.
    """
    if not isinstance(thing, tuple) or not all([maze.holds(node) for node in thing]):
        return False
    nodes = {node: True for node in thing}
    if len(nodes) < len(thing) or maze.first() not in nodes:
        return False
    for node in nodes:
        ways = maze.ways(node)
        if not fits(node, ways) or not all([way[3] in nodes for way in ways]):
            return False
    return True
