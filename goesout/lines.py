"""Lines of caches, one of each rule of a family, that are asked for the same things."""

from goesout.named import check_family
from goesout.nested import is_within
from goesout.pasts import Past
from goesout.rules import begun, check_thing, step, things_in


class Line(Past):
    """A cache of each rule of a family."""

    def __init__(self, family):
        check_family(family)
        # How things are: the states of all caches, and the numbers of their misses.
        Past.__init__(self, (tuple([begun(rule) for rule in family]), (0,) * len(family)))
        self._family = family

    @property
    def family(self):
        """The family."""
        return self._family

    @property
    def caches(self):
        """A tuple with the things of each cache."""
        return tuple([things_in(row) for row, _ in self._now[0]])

    @property
    def counts(self):
        """The tuple of the numbers of misses of all caches."""
        return self._now[1]

    @property
    def is_nested(self):
        """Whether each cache has now what the next smaller one has."""
        rows = [row for row, _ in self._now[0]]
        return all([is_within(rows[at], rows[at + 1]) for at in range(len(rows) - 1)])

    def ask(self, thing):
        """Ask all caches for a thing; return the tuple of what each says."""
        check_thing(thing)
        states, counts = self._now
        told = [step(rule, state, thing) for rule, state in zip(self._family, states)]
        missed = [count if one[0] else count + 1 for one, count in zip(told, counts)]
        self._go_on(thing, (tuple([one[2] for one in told]), tuple(missed)))
        return tuple([one[0] for one in told])

    def __call__(self, thing):
        return self.ask(thing)

    def undo(self):
        """Take back the last request, and return its thing."""
        return self._go_back()

    def trial(self, work):
        """Return what work returns, called with the line; what it did is undone if an exception leaves it."""
        return self._tried(work)

    def __len__(self):
        return len(self._family)

    def __eq__(self, other):
        if not isinstance(other, Line) or self._family != other.family:
            return False
        return self._now[0] == other._now[0]

    def __repr__(self):
        return f"Line({len(self._family)} caches, {self._many} asked)"
