"""Tests of goesout.best: points 2, 3, 13, 60, 61 and 90."""

import itertools
import unittest

from goesout.best import fewest, plan, shows_fewest
from goesout.errors import NoPlaces, NoRequests
from goesout.named import chance, newest, queue, recent, segments, tree
from goesout.runs import misses
from tests.samples import ODD, RULES, WRONG_PARTS, Case, made_requests, made_rule, nested_deep, replaced, reshaped

FUNCTIONS = (fewest, plan, lambda requests, places: shows_fewest(requests, places, None))
SESSION = (0, 1, 0, 2, 0, 1)
ALL_SHORT = [requests for many in range(7) for requests in itertools.product(range(min(many, 4)), repeat=many)
             if list(dict.fromkeys(requests)) == sorted(set(requests))]


LONG = [made_requests(seed, things) for seed in range(6) for things in (1, 2, 3, 4, 6, 9, 14, 30, 100)]


def slow_fewest(requests, places):
    """Return the fewest misses, found by going through all that may be kept."""
    found = {frozenset(): 0}
    for thing in requests:
        then = {}
        for kept, many in found.items():
            if thing in kept:
                choices = [(kept, many)]
            elif len(kept) < places:
                choices = [(kept | {thing}, many + 1)]
            else:
                choices = [(kept - {goes} | {thing}, many + 1) for goes in kept]
            for choice, cost in choices:
                then[choice] = min(cost, then.get(choice, cost))
        found = then
    return min(found.values())


def slow_stays(requests):
    """Return all stays, ascending."""
    return [(i, j) for i, j in itertools.combinations(range(len(requests)), 2)
            if requests[i] == requests[j] and requests[i] not in requests[i + 1:j]]


def slow_hits(requests, places):
    """Return the stays that end in a hit if always the farthest thing goes."""
    kept, found = [], []
    for at, thing in enumerate(requests):
        if thing in kept:
            found.append((at - 1 - requests[:at][::-1].index(thing), at))
            continue
        if len(kept) == places:
            later = requests[at:] + (None,) * 100
            kept.sort(key=lambda other: (-later.index(other) if other in later else -100, other))
            kept.pop(0)
        kept.append(thing)
    return tuple(sorted(found))


def slow_shows(requests, places, thing):
    """Return what shows_fewest returns, found by another way than in the program."""
    known = slow_stays(requests)
    if type(thing) is not tuple or len(thing) != 4 or not all(type(part) is tuple for part in thing[1:]):
        return False
    many, stays, heights, dues = thing
    if type(many) is not int or [type(number) for number in heights + dues] != [int] * (len(requests) + len(known)):
        return False
    if len(heights) != len(requests) or min(heights + dues, default=0) < 0:
        return False
    if not set(map(repr, stays)) <= set(map(repr, known)) or list(stays) != sorted(set(stays)):
        return False
    for at in range(len(requests)):
        if sum(at in range(i + 1, j) for i, j in stays) > places - 1:
            return False
    if any(due + sum(heights[at] for at in range(i + 1, j)) == 0 for (i, j), due in zip(known, dues)):
        return False
    worth = sum(dues) + sum(height * (places - 1) for height in heights)
    return len(requests) - many == len(stays) == worth


class FewestTest(Case):
    def test_by_hand(self):
        for places, expected in ((1, 6), (2, 4), (3, 3), (4, 3), (8, 3)):
            self.assert_same(fewest(SESSION, places), expected)
        self.assert_same(fewest((0, 1, 2, 0, 1, 2), 2), 4)
        self.assert_same(fewest((0, 1, 2, 3, 0, 1, 2, 3), 3), 5)
        # Each thing that is asked for has to come in, also one that never comes again.
        self.assert_same(fewest((0, 1, 0), 1), 3)

    def test_all_short_requests(self):
        self.assertGreater(len(ALL_SHORT), 200)
        for requests in ALL_SHORT:
            for places in range(1, 5):
                self.assert_same(fewest(requests, places), slow_fewest(requests, places))

    def test_made_requests(self):
        for seed in range(40):
            requests = made_requests(seed, 2 + seed % 6, 24)
            for places in range(1, 9):
                self.assert_same(fewest(requests, places), slow_fewest(requests, places))

    def test_edges(self):
        for places in range(1, 9):
            self.assert_same(fewest((), places), 0)
            self.assert_same(fewest((7,), places), 1)
            self.assert_same(fewest((7,) * 60, places), 1)
            self.assert_same(fewest(tuple(range(40, 100)), places), 60)
            self.assert_same(fewest(tuple(range(places)) * (60 // places), places), places)
        for places in range(2, 9):
            # Of places + 1 things in turn one misses, the next places - 1 hit, and so on.
            requests = (tuple(range(places + 1)) * 60)[:60]
            self.assertEqual(fewest(requests, places), places + 1 + (60 - places - 1) // places)

    def test_more_places_never_have_more_misses(self):
        for requests in LONG:
            found = [fewest(requests, places) for places in range(1, 9)]
            self.assertEqual(found, sorted(found, reverse=True))
            self.assertGreaterEqual(found[-1], len(set(requests)))

    def test_no_rule_has_fewer_misses(self):
        rules = RULES + (recent(4), queue(4), newest(4), chance(3), tree(4), segments(2, 2), made_rule(4, 5, 1))
        some = 0
        for rule in rules:
            for requests in LONG + ALL_SHORT[::9]:
                best = fewest(requests, rule[0])
                self.assertGreaterEqual(misses(rule, requests), best)
                some += misses(rule, requests) == best
        self.assertGreater(some, 100)


class PlanTest(Case):
    def test_by_hand(self):
        many, stays, heights, dues = plan(SESSION, 2)
        self.assert_same((many, stays), (4, ((0, 2), (2, 4))))
        self.assertEqual((len(heights), len(dues)), (6, 3))
        self.assertEqual(sum(heights) + sum(dues), 2)
        self.assert_same(plan(SESSION, 3), (3, ((0, 2), (1, 5), (2, 4)), (0,) * 6, (1, 1, 1)))
        self.assert_same(plan((), 5), (0, (), (), ()))
        self.assert_same(plan((9,), 1), (1, (), (0,), ()))
        self.assert_same(plan((9, 9), 1)[:2], (1, ((0, 1),)))

    def test_the_smallest_of_those_that_are_not_asked_for_any_more(self):
        # 5 and 6 do not come again, so both are farther than 4; 5 goes, then 6.
        self.assert_same(plan((6, 4, 5, 3, 4), 3)[1], ((1, 4),))
        self.assert_same(plan((6, 4, 5, 3, 2, 4), 3)[1], ((1, 5),))
        self.assert_same(plan((6, 4, 5, 3, 2, 1, 4), 3)[1], ((1, 6),))

    def test_which_stays(self):
        for requests in ALL_SHORT + LONG:
            for places in (1, 2, 3, 5, 8):
                self.assert_same(plan(requests, places)[1], slow_hits(requests, places))

    def test_stays_of_neighbouring_positions(self):
        self.assert_same(plan((3, 3, 5, 5, 3), 1)[:2], (3, ((0, 1), (2, 3))))
        for places in range(1, 9):
            self.assert_same(plan((3,) * 60, places)[1], tuple((at, at + 1) for at in range(59)))
            # Nothing is between them, so that their dues must be 1 or more.
            self.assertEqual(plan((3,) * 60, places)[3], (1,) * 59)

    def test_it_shows_the_fewest(self):
        for requests in ALL_SHORT + LONG:
            for places in (1, 2, 3, 4, 6, 8):
                found = plan(requests, places)
                self.assert_same(found[0], fewest(requests, places))
                self.assertIs(slow_shows(requests, places, found), True)
                self.assertIs(shows_fewest(requests, places, found), True)


class ShowsTest(Case):
    def test_all_small_numbers(self):
        for requests, places in (((0, 1, 0), 1), ((0, 1, 0), 2), ((0, 0, 0), 1), ((0, 1, 0, 1), 2), ((0, 1), 1)):
            known = slow_stays(requests)
            some = [stays for many in range(len(known) + 1) for stays in itertools.permutations(known, many)]
            numbers = [(heights, dues) for heights in itertools.product(range(-1, 3), repeat=len(requests))
                       for dues in itertools.product(range(-1, 3), repeat=len(known))]
            shown = 0
            for many in range(-1, len(requests) + 2):
                for stays in some:
                    for heights, dues in numbers[::1 if len(requests) < 4 else 5]:
                        thing = (many, stays, heights, dues)
                        expected = slow_shows(requests, places, thing)
                        self.assertIs(shows_fewest(requests, places, thing), expected)
                        shown += expected
            self.assertGreater(shown, 0)

    def test_other_stays_than_those_of_plan(self):
        requests = (0, 1, 2, 0, 1, 2)
        many, stays, heights, dues = plan(requests, 2)
        self.assert_same((many, stays), (4, ((0, 3), (2, 5))))
        for other in itertools.combinations(slow_stays(requests), 2):
            expected = other == stays
            self.assertIs(slow_shows(requests, 2, (many, other, heights, dues)), expected)
            self.assertIs(shows_fewest(requests, 2, (many, other, heights, dues)), expected)
        requests = (0, 1, 2, 0, 1)
        many, stays, heights, dues = plan(requests, 2)
        self.assert_same((many, stays), (4, ((0, 3),)))
        self.assertIs(shows_fewest(requests, 2, (4, ((1, 4),), heights, dues)), True)

    def test_other_numbers_than_those_of_plan(self):
        requests = (0, 1, 2, 0, 1)
        stays = ((0, 3),)
        for at in range(5):
            heights = tuple(int(place == at) for place in range(5))
            self.assertIs(shows_fewest(requests, 2, (4, stays, heights, (0, 0))), at == 2)
            self.assertIs(shows_fewest(requests, 2, (4, stays, heights, (1, 0))), False)
        # With one place heights are free, however great they are.
        for great in (1, 2, 10 ** 12, 10 ** 40):
            self.assertIs(shows_fewest(requests, 1, (5, (), (great,) * 5, (0, 0))), True)
            self.assertIs(shows_fewest(requests, 2, (4, stays, (0, 0, great, 0, 0), (0, 0))), great == 1)
        # A due in place of a height.
        self.assertIs(shows_fewest((0, 1, 0), 2, (2, ((0, 2),), (0, 0, 0), (1,))), True)
        self.assertIs(shows_fewest((0, 1, 0), 2, (2, ((0, 2),), (0, 1, 0), (0,))), True)
        self.assertIs(shows_fewest((0, 1, 0), 2, (2, ((0, 2),), (1, 0, 0), (0,))), False)

    def test_numbers_that_are_too_great_show_nothing(self):
        for requests in LONG[:12]:
            many, stays, heights, dues = plan(requests, 3)
            for at in range(60):
                raised = heights[:at] + (heights[at] + 1,) + heights[at + 1:]
                self.assertIs(shows_fewest(requests, 3, (many, stays, raised, dues)), False)
                # They show that there are not fewer, but no stays come to it.
                self.assertIs(shows_fewest(requests, 3, (many - 2, stays, raised, dues)), False)

    def test_stays_that_are_left_out(self):
        for requests in LONG:
            many, stays, heights, dues = plan(requests, 3)
            for at in range(0, len(stays), 7):
                fewer = stays[:at] + stays[at + 1:]
                for told in (many - 1, many, many + 1):
                    self.assertIs(shows_fewest(requests, 3, (told, fewer, heights, dues)), False)

    def test_the_same_stay_twice(self):
        # Nothing goes on over neighbours, so twice the same would seem to fit, too.
        self.assertIs(shows_fewest((0, 0), 1, (1, ((0, 1),), (0, 0), (1,))), True)
        self.assertIs(shows_fewest((0, 0), 1, (0, ((0, 1), (0, 1)), (0, 0), (2,))), False)

    def test_too_many_stays_go_on(self):
        requests = (0, 1, 2, 0, 1, 2)
        stays = ((0, 3), (1, 4), (2, 5))
        for places in range(1, 5):
            thing = (3, stays, (0,) * 6, (1, 1, 1))
            self.assertIs(shows_fewest(requests, places, thing), places >= 3)

    def test_other_places_and_requests(self):
        found = plan(SESSION, 2)
        for places in range(1, 9):
            self.assertIs(shows_fewest(SESSION, places, found), slow_shows(SESSION, places, found))
        for requests in ALL_SHORT:
            self.assertIs(shows_fewest(requests, 2, found), slow_shows(requests, 2, found))

    def test_odd_values(self):
        for value in ODD + (nested_deep(20), (0,) * 20000, (0, (0,) * 9000, (0,) * 9000, ()), (4, (), (), ())):
            for requests in ((), SESSION, LONG[3]):
                self.assertIs(shows_fewest(requests, 2, value), False)

    def test_wrong_parts_and_shapes(self):
        for requests, places in ((SESSION, 2), (SESSION, 3), ((0, 1, 0), 1), ((3, 3, 3), 1), ((1, 0, 2, 1), 2)):
            self.assert_shows(shows_fewest, slow_shows, requests, places, plan(requests, places))


class WrongTest(Case):
    def test_no_requests(self):
        wrong = ((0,) * 61, [0, 1], (0, True), (-1,), (100,), (None,), ((0,),), "01", nested_deep(20))
        for function in FUNCTIONS:
            for value in ODD + wrong:
                self.assertRaises(NoRequests, function, value, 2)
            for part in WRONG_PARTS:
                for value in replaced((3, 4, 3), part):
                    self.assertRaises(NoRequests, function, value, 2)
            for value in reshaped((3, 4)):
                if not all(type(part) is int for part in value) or type(value) is list:
                    self.assertRaises(NoRequests, function, value, 2)
            function((0,) * 60, 2)

    def test_no_places(self):
        for function in FUNCTIONS:
            for places in range(-3, 14):
                if 1 <= places <= 8:
                    function(SESSION, places)
                else:
                    self.assertRaises(NoPlaces, function, SESSION, places)
            for value in ODD + (nested_deep(20), (2,), [2], "2"):
                self.assertRaises(NoPlaces, function, SESSION, value)

    def test_which_error_comes_first(self):
        for function in FUNCTIONS:
            for value in ODD:
                self.assertRaises(NoRequests, function, value, value)
                self.assertRaises(NoRequests, function, (0,) * 61, value)


class GeneralTest(Case):
    def test_by_name(self):
        self.assertEqual(fewest(places=2, requests=SESSION), fewest(SESSION, 2))
        self.assertEqual(plan(places=2, requests=SESSION), plan(SESSION, 2))
        self.assertIs(shows_fewest(thing=plan(SESSION, 2), places=2, requests=SESSION), True)

    def test_nothing_is_modified(self):
        good = plan(SESSION, 2)
        for value in ODD + (SESSION, list(SESSION), good, list(good), (4, [(0, 2)], [0], [1]), nested_deep(20)):
            self.assert_unmodified(value, (
                lambda: fewest(value, 2), lambda: plan(value, 2), lambda: fewest(SESSION, value),
                lambda: plan(SESSION, value), lambda: shows_fewest(SESSION, 2, value)))

    def test_again_gives_the_same(self):
        for requests in LONG:
            first = fewest(requests, 3), plan(requests, 3)
            self.assertRaises(NoPlaces, plan, requests, 9)
            plan(requests[::-1], 3)
            self.assert_same((fewest(requests, 3), plan(requests, 3)), first)

    def test_renaming_things_changes_nothing(self):
        names = {thing: (thing * 37 + 5) % 100 for thing in range(100)}
        for requests in LONG:
            other = tuple(names[thing] for thing in requests)
            for places in (1, 2, 4, 8):
                self.assert_same(fewest(other, places), fewest(requests, places))
                self.assertIs(shows_fewest(other, places, plan(requests, places)), True)


if __name__ == "__main__":
    unittest.main()
