"""What requests did, so that they can be taken back: for caches and lines."""

from goesout.errors import NothingDone


class Past:
    """The requests so far, each with how things are behind it."""

    def __init__(self, first):
        # Ahead of all requests stands how things are at first.
        self._past = [(None, first)]

    @property
    def _now(self):
        """How things are behind all requests."""
        return self._past[-1][1]

    @property
    def _many(self):
        """The number of requests."""
        return len(self._past) - 1

    def _go_on(self, thing, then):
        """Note a request, and how things are behind it."""
        self._past.append((thing, then))

    def _go_back(self):
        """Take back the last request, and return its thing."""
        if self._many == 0:
            raise NothingDone("there is no request to take back")
        return self._past.pop()[0]

    def _tried(self, work):
        """Return what work returns, which is called with the object.

        If an exception leaves it, all is as it was before.
        """
        # Work may take back what was there before, so all of it is kept.
        past = list(self._past)
        told = done = None
        try:
            told = work(self)
            done = True
        finally:
            if done is None:
                self._past = past
        return told
