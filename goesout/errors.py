"""All errors of the package."""


class GoesError(ValueError):
    """What every error of the package is."""


class NoRule(GoesError):
    """Something is no rule."""


class NoPlaces(GoesError):
    """Something is no number of places, or not one that is allowed here."""


class NoState(GoesError):
    """Something is no state of the rule."""


class NoThing(GoesError):
    """Something is no thing, or some things are not different."""


class NoRequests(GoesError):
    """Something is no requests."""


class NoFamily(GoesError):
    """Something is no family."""


class NoArrangement(GoesError):
    """Something is no arrangement of the two rules."""


class NoNumber(GoesError):
    """Something is no move number of the arrangement."""


class NoWalk(GoesError):
    """Something is no walk of the two rules."""


class NoPath(GoesError):
    """Something is no path of the rule and the best cache."""


class NoAccesses(GoesError):
    """Something is no accesses."""


class NoText(GoesError):
    """Something is not the text of a rule."""


class NothingDone(GoesError):
    """There is no request to take back."""


class TooMany(GoesError):
    """There are more arrangements than the limit."""

    def __init__(self, limit):
        super().__init__(f"there are more than {limit} arrangements")
        self.limit = limit


class NotNested(GoesError):
    """Behind the first at requests a cache lacks what a smaller one keeps."""

    def __init__(self, at):
        super().__init__(f"behind {at} requests a cache lacks what the next smaller one keeps")
        self.at = at


class Pins(GoesError):
    """A pinned thing would go."""

    def __init__(self, thing):
        super().__init__(f"the pinned thing {thing} would go")
        self.thing = thing
