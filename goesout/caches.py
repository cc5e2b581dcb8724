"""Caches as objects, which are asked."""

from goesout.errors import NoThing, Pins
from goesout.pasts import Past
from goesout.rules import begun, check_rule, check_thing, is_thing, step, things_in

# Each class has in its own body all that the interface lists for it, so
# some methods only say that those of the class above will do.


class Cache(Past):
    """A cache that is asked for things."""

    def __init__(self, rule):
        check_rule(rule)
        # How things are: the state, the number of misses, and what went last.
        Past.__init__(self, (begun(rule), 0, None))
        self._rule = rule
        # Only the classes below may have some, but all are compared alike.
        self._pinned = ()

    @property
    def rule(self):
        """The rule."""
        return self._rule

    @property
    def row(self):
        """The row of the state."""
        return self._now[0][0]

    @property
    def label(self):
        """The label of the state."""
        return self._now[0][1]

    @property
    def things(self):
        """The ascending tuple of the things in the cache."""
        return things_in(self._now[0][0])

    @property
    def asked(self):
        """How many requests there were."""
        return self._many

    @property
    def missed(self):
        """How many of the requests were misses."""
        return self._now[1]

    def ask(self, thing):
        """Ask for a thing; return True for a hit, False for a miss."""
        check_thing(thing)
        state, missed, _ = self._now
        is_hit, goes, then = step(self._rule, state, thing)
        self._go_on(thing, (then, missed if is_hit else missed + 1, goes))
        return is_hit

    def __call__(self, thing):
        return self.ask(thing)

    def ask_all(self, *things):
        """Ask for several things, or, if one is refused, for none; return the tuple of what ask returns."""
        return self._tried(lambda cache: tuple([cache.ask(thing) for thing in things]))

    def undo(self):
        """Take back the last request, and return its thing."""
        return self._go_back()

    def trial(self, work):
        """Return what work returns, called with the cache; what it did is undone if an exception leaves it."""
        return self._tried(work)

    def __len__(self):
        return len(self.things)

    def __contains__(self, thing):
        return is_thing(thing) and thing in self.row

    def __eq__(self, other):
        if not isinstance(other, Cache) or self.__class__.__name__ != other.__class__.__name__:
            return False
        if self._rule != other.rule or self._pinned != other._pinned:
            return False
        return self.row == other.row and self.label == other.label

    def __repr__(self):
        return "".join([self.__class__.__name__, f"({len(self.things)} of {self._rule[0]} places, ",
                        f"{self.asked} asked, {self.missed} missed)"])


class Pinned(Cache):
    """A cache that refuses requests at which one of its pinned things would go."""

    def __init__(self, rule, *things):
        Cache.__init__(self, rule)
        for at, thing in enumerate(things):
            check_thing(thing)
            if thing in things[:at]:
                raise NoThing("pinned things are different")
        self._pinned = tuple(sorted(things))

    @property
    def pinned(self):
        """The ascending tuple of the pinned things."""
        return self._pinned

    def ask(self, thing):
        """Ask for a thing, as Cache does; Pins if a pinned thing would go."""
        check_thing(thing)
        goes = step(self._rule, self._now[0], thing)[1]
        if goes in self._pinned:
            raise Pins(goes)
        return super().ask(thing)

    def __call__(self, thing):
        return self.ask(thing)

    def ask_all(self, *things):
        """Ask for several things, or, if one is refused, for none; return the tuple of what ask returns."""
        return super().ask_all(*things)


class Noted(Cache):
    """A cache that notes what went."""

    def __init__(self, rule):
        Cache.__init__(self, rule)

    @property
    def gone(self):
        """The tuple of the things that went, in order."""
        return went_in(self._past)


class NotedPinned(Noted, Pinned):
    """A cache that notes what went, and has pinned things."""

    def __init__(self, rule, *things):
        Pinned.__init__(self, rule, *things)

    @property
    def pinned(self):
        """The ascending tuple of the pinned things."""
        return self._pinned

    @property
    def gone(self):
        """The tuple of the things that went, in order."""
        return went_in(self._past)

    def ask(self, thing):
        """Ask for a thing, as Pinned does."""
        return super().ask(thing)

    def __call__(self, thing):
        return self.ask(thing)

    def ask_all(self, *things):
        """Ask for several things, or, if one is refused, for none; return the tuple of what ask returns."""
        return super().ask_all(*things)


def went_in(past):
    """Return the tuple of the things that went in the past of a cache."""
    return tuple([now[2] for _, now in past if now[2] is not None])
