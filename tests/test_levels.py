"""Tests of goesout.levels: points 2, 3 and 71."""

import itertools
import unittest

from goesout.errors import NoPlaces, NoRequests
from goesout.levels import levels
from goesout.named import recent
from goesout.runs import hits
from tests.samples import ODD, WRONG_PARTS, Case, made_requests, nested_deep, replaced, reshaped

SESSION = (0, 1, 2, 0, 3, 0, 1)


REQUESTS = [made_requests(seed, things) for seed in range(4) for things in (1, 2, 3, 4, 6, 9, 12, 17, 30)]
REQUESTS += [requests for many in range(6) for requests in itertools.product((7, 0, 3), repeat=many)]


def different_since(requests, at):
    """Return how many different things were asked for since this one was, with it, or None."""
    ahead = requests[:at][::-1]
    return len(set(ahead[:ahead.index(requests[at])])) + 1 if requests[at] in ahead else None


def slow_levels(first, second, requests):
    """Return what levels returns, by the order in which things come to the second cache."""
    found, came = [], {}
    for at, thing in enumerate(requests):
        far = different_since(requests, at)
        if far is not None and far <= first:
            found.append(1)
            continue
        found.append(2 if thing in came else 0)
        came.pop(thing, None)
        # What is the last one in the first cache ahead of this goes from it.
        for other in set(requests[:at]):
            row = requests[:at] + (other,)
            if other != thing and different_since(row, at) == first:
                came[other] = at
                if len(came) > second:
                    del came[min(came, key=came.get)]
    return tuple(found)


class LevelsTest(Case):
    def test_by_hand(self):
        # 0 goes for 1, 1 for 2, then 0 is found, and leaves the second cache
        # before 2 comes there; 1 goes from it when 0 comes there again.
        self.assert_same(levels(1, 2, SESSION), (0, 0, 0, 2, 0, 2, 0))
        self.assert_same(levels(2, 1, SESSION), (0, 0, 0, 2, 0, 1, 0))
        self.assert_same(levels(1, 1, SESSION), (0,) * 5 + (2, 0))
        self.assert_same(levels(2, 2, SESSION), (0, 0, 0, 2, 0, 1, 2))
        self.assert_same(levels(1, 1, (5, 6, 5, 6, 6, 5)), (0, 0, 2, 2, 1, 2))
        self.assert_same(levels(8, 1, SESSION), (0, 0, 0, 1, 0, 1, 1))

    def test_what_is_found_leaves_before_another_one_comes(self):
        # The second cache is full, but 5 leaves it first, so that 6 stays there.
        self.assert_same(levels(1, 2, (6, 5, 7, 5, 6, 7)), (0, 0, 0, 2, 2, 2))
        self.assert_same(levels(1, 1, (6, 5) * 30), (0, 0) + (2,) * 58)

    def test_by_what_was_asked_for_since(self):
        for first, second in itertools.product(range(1, 9), repeat=2):
            for requests in REQUESTS[:40]:
                far = [different_since(requests, at) for at in range(len(requests))]
                expected = [0 if number is None or number > first + second else 1 if number <= first else 2
                            for number in far]
                self.assert_same(levels(first, second, requests), tuple(expected))

    def test_by_what_comes_to_the_second_one(self):
        for first, second in ((1, 1), (1, 3), (2, 2), (3, 1), (4, 4)):
            for requests in REQUESTS[::2]:
                self.assert_same(levels(first, second, requests), slow_levels(first, second, requests))

    def test_as_one_cache(self):
        for first, second in itertools.product(range(1, 4), repeat=2):
            for requests in REQUESTS:
                found = levels(first, second, requests)
                self.assertEqual(tuple(level == 1 for level in found), hits(recent(first), requests))
                if first + second <= 4:
                    self.assertEqual(tuple(level > 0 for level in found), hits(recent(first + second), requests))

    def test_edges(self):
        for first, second in itertools.product(range(1, 9), repeat=2):
            self.assert_same(levels(first, second, ()), ())
            self.assert_same(levels(first, second, (9,)), (0,))
            self.assert_same(levels(first, second, (9,) * 60), (0,) + (1,) * 59)
            self.assert_same(levels(first, second, tuple(range(60))), (0,) * 60)
            many = first + second
            self.assertEqual(levels(first, second, tuple(range(many)) * 2)[many:], (2,) * many)
            self.assertEqual(levels(first, second, tuple(range(many + 1)) * 2)[many + 1:], (0,) * (many + 1))
            self.assertEqual(levels(first, second, tuple(range(first)) * 2)[first:], (1,) * first)


class WrongTest(Case):
    def test_no_places(self):
        for first, second in itertools.product(range(-3, 13), repeat=2):
            if 1 <= first <= 8 and 1 <= second <= 8:
                levels(first, second, SESSION)
            else:
                self.assertRaises(NoPlaces, levels, first, second, SESSION)
        for value in ODD + (nested_deep(20), (2,), [2], "2"):
            self.assertRaises(NoPlaces, levels, value, 2, SESSION)
            self.assertRaises(NoPlaces, levels, 2, value, SESSION)

    def test_no_requests(self):
        for value in ODD + ((0,) * 61, [0, 1], (0, True), (-1,), (100,), nested_deep(20)):
            self.assertRaises(NoRequests, levels, 2, 2, value)
        for value in [value for part in WRONG_PARTS for value in replaced((3, 4, 3), part)]:
            self.assertRaises(NoRequests, levels, 2, 2, value)
        for value in reshaped((3, 4)):
            if not all(type(part) is int for part in value) or type(value) is list:
                self.assertRaises(NoRequests, levels, 2, 2, value)

    def test_which_error_comes_first(self):
        for value in ODD:
            self.assertRaises(NoPlaces, levels, value, value, value)
            self.assertRaises(NoPlaces, levels, 2, value, value)
            self.assertRaises(NoPlaces, levels, value, 2, (0,) * 61)


class GeneralTest(Case):
    def test_by_name(self):
        self.assertEqual(levels(requests=SESSION, second=2, first=1), levels(1, 2, SESSION))
        self.assertNotEqual(levels(requests=SESSION, second=1, first=2), levels(1, 2, SESSION))

    def test_nothing_is_modified(self):
        for value in ODD + (SESSION, list(SESSION), nested_deep(20)):
            self.assert_unmodified(value, (
                lambda: levels(1, 2, value), lambda: levels(value, 2, SESSION), lambda: levels(2, value, SESSION)))

    def test_again_gives_the_same(self):
        for requests in REQUESTS[:36]:
            first = levels(2, 3, requests)
            self.assertRaises(NoRequests, levels, 2, 3, requests + (None,))
            self.assert_same(levels(2, 3, requests), first)

    def test_renaming_things_changes_nothing(self):
        for requests in REQUESTS[:36]:
            other = tuple((thing * 37 + 5) % 100 for thing in requests)
            self.assert_same(levels(2, 3, other), levels(2, 3, requests))


if __name__ == "__main__":
    unittest.main()
