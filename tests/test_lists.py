"""Tests of goesout.lists: points 2, 3, 40, 41, 42 and 90."""

import itertools
import unittest

from goesout.errors import NoFamily, NoRequests, NotNested, TooMany
from goesout.lists import curve, distances, family_nested, going, line, shows_going
from goesout.named import chance, family, newest, queue, recent, segments
from goesout.nested import nested, shows_nested
from goesout.pairs import played
from goesout.rules import asked
from goesout.runs import behind, hits, kept, misses
from tests.samples import (
    MIXED, ODD, ONE, QUEUE_2, RECENT_2, WRONG_PARTS, Case, by_turns, made_requests, made_rule, nested_deep,
    replaced,
)

RECENTS, NEWESTS, QUEUES = family(recent, 4), family(newest, 4), family(queue, 4)
TURNS = [tuple(by_turns(places, outs) for places in range(1, 5))
         for outs in ((True, False), (True, True, False), (False, False, True, False, True), (False,) * 15 + (True,))]
NESTED = [RECENTS, NEWESTS, RECENTS[:1], NEWESTS[:2], RECENTS[:3]] + TURNS
OTHERS = [QUEUES, QUEUES[:3], family(chance, 4), (ONE, segments(1, 1), segments(2, 1), segments(2, 2)),
          (ONE, QUEUE_2, MIXED), (ONE, RECENT_2, queue(3))]
OTHERS += [(ONE,) + tuple(made_rule(places, 1 + seed % 3, seed * places) for places in (2, 3, 4)[:1 + seed % 3])
           for seed in range(12)]
LISTS = (line, going, shows_going)
OF_REQUESTS = (line, going, distances, curve)
# The pair of 3 and 4 places has too many arrangements in each; of those with 2 and 3 the
# first is nested, the second apart, and the third has too many, too.
MANY = (made_rule(3, 16, 3), made_rule(4, 16, 4))


REQUESTS = [made_requests(seed, things) for seed in range(4) for things in (1, 2, 4, 5, 7, 30)]
REQUESTS += [requests for many in range(5) for requests in itertools.product((7, 0, 3), repeat=many)]


def are_nested(rows):
    """Tell whether each row has what the one before it has, but for blanks."""
    return all(set(smaller) - {-1} <= set(greater) for smaller, greater in zip(rows, rows[1:]))


def breaks_at(rules, requests):
    """Return the smallest number of requests behind which a cache lacks something, or None."""
    for at in range(len(requests) + 1):
        if not are_nested([behind(rule, requests[:at])[0] for rule in rules]):
            return at
    return None


def next_things(requests):
    """Return all things that were asked for, and two that were not."""
    return sorted(set(requests)) + [thing for thing in range(100) if thing not in requests][:2]


def breaks_later(rules, requests):
    """Return what breaks_at returns, with any one request more."""
    found, states = breaks_at(rules, requests), [behind(rule, requests) for rule in rules]
    for thing in next_things(requests):
        if found is None and not are_nested([asked(rule, state, thing)[2][0]
                                             for rule, state in zip(rules, states)]):
            return len(requests) + 1
    return found


def line_by_caches(rules, requests):
    """Return the line, from what the caches keep."""
    found = ()
    for rule in rules:
        found += tuple(set(kept(rule, requests)) - set(found))
    return found


def lists_of_what_goes(rules, requests):
    """Return all lists that say what goes, whatever is asked for next, ascending."""
    row, told = line(rules, requests), set()
    for rule in rules:
        state = behind(rule, requests)
        told |= {(state[0], asked(rule, state, thing)[1]) for thing in next_things(requests)}
    return [some for some in itertools.permutations(sorted(row))
            if all(goes is None or goes == [thing for thing in some if thing in kept_row][-1]
                   for kept_row, goes in told)]


class FamilyNestedTest(Case):
    def test_nested(self):
        for rules in NESTED:
            self.assert_same(family_nested(rules), ("nested",))
        self.assert_same(family_nested((ONE, QUEUE_2)), ("nested",))

    def test_one_rule(self):
        self.assert_same(family_nested((ONE,)), ("nested",))
        self.assert_same(family_nested((made_rule(1, 16, 3),)), ("nested",))

    def test_apart(self):
        self.assert_same(family_nested(QUEUES), ("apart", 2, (0, 1, 2, 2, 3)))
        self.assert_same(family_nested(family(chance, 3)), ("apart", 2, nested(chance(2), chance(3))[1]))
        self.assert_same(family_nested(RECENTS[:3] + QUEUES[3:]), ("apart", 3, nested(recent(3), queue(4))[1]))

    def test_the_smallest_number_of_places(self):
        count = 0
        for rules in NESTED + [rules for rules in OTHERS if rules != family(chance, 4)]:
            told = [nested(smaller, greater) for smaller, greater in zip(rules, rules[1:])]
            apart = [(at + 1, walk) for at, (word, walk) in enumerate(told) if word == "apart"]
            self.assert_same(family_nested(rules), ("apart", *apart[0]) if apart else ("nested",))
            count += len(apart) > 1
        self.assertGreater(count, 3)

    def test_too_many(self):
        self.assertRaises(TooMany, nested, *MANY)
        with self.assertRaises(TooMany) as caught:
            family_nested((ONE, made_rule(2, 16, 5), *MANY))
        self.assert_same(caught.exception.limit, 2000)
        self.assertRaises(TooMany, family_nested, RECENTS[:2] + (by_turns(3, (False,) * 16), MANY[1]))

    def test_too_many_only_if_no_smaller_pair_is_apart(self):
        rules = (ONE, QUEUE_2, MANY[0], MANY[1])
        self.assertEqual(nested(QUEUE_2, MANY[0])[0], "apart")
        self.assert_same(family_nested(rules), ("apart", 2, nested(QUEUE_2, MANY[0])[1]))
        # A greater pair that is apart does not help.
        rules = (ONE, made_rule(2, 16, 5), made_rule(3, 16, 6), queue(4))
        self.assertRaises(TooMany, nested, rules[1], rules[2])
        self.assertRaises(TooMany, family_nested, rules)


class LineTest(Case):
    def test_line(self):
        self.assert_same(line(RECENTS, (0, 1, 0, 2)), (2, 0, 1))
        self.assert_same(line(RECENTS, (5, 6, 7, 8, 9)), (9, 8, 7, 6))
        self.assert_same(line(NEWESTS, (5, 6, 7, 8, 9)), (9, 5, 6, 7))
        self.assert_same(line(NEWESTS[:2], (5, 6, 7, 8, 9)), (9, 5))
        self.assert_same(line(QUEUES, (5, 6)), (6, 5))

    def test_all_that_is_kept(self):
        for rules in NESTED:
            for requests in REQUESTS:
                found = line(rules, requests)
                self.assert_same(found, line_by_caches(rules, requests))
                for places in range(1, len(rules) + 1):
                    self.assertEqual(tuple(sorted(found[:places])), kept(rules[places - 1], requests))

    def test_no_requests(self):
        for rules in NESTED + OTHERS:
            self.assert_same(line(rules, ()), ())
            self.assert_same(going(rules, ()), ())
            self.assert_same(distances(rules, ()), ())
            self.assert_same(curve(rules, ()), (0,) * len(rules))

    def test_not_nested(self):
        requests = played(QUEUE_2, queue(3), family_nested(QUEUES)[2])
        for more in range(4):
            for function in OF_REQUESTS:
                with self.assertRaises(NotNested) as caught:
                    function(QUEUES, requests + (7, 8, 9)[:more])
                self.assert_same(caught.exception.at, 5)
        self.assertEqual(line(QUEUES, requests[:4]), (0, 2, 1))
        self.assertEqual(distances(QUEUES, requests[:4]), (0, 0, 0, 3))

    def test_where_it_breaks(self):
        broken = 0
        for rules in OTHERS:
            for requests in REQUESTS:
                at = breaks_at(rules, requests)
                for function in (line, distances, curve):
                    if at is None:
                        function(rules, requests)
                    else:
                        with self.assertRaises(NotNested) as caught:
                            function(rules, requests)
                        self.assert_same(caught.exception.at, at)
                        broken += 1
                if at is None:
                    self.assertEqual(line(rules, requests), line_by_caches(rules, requests))
        self.assertGreater(broken, 300)

    def test_nested_again_later(self):
        # The caches are nested behind all requests, but were not in between.
        requests = (0, 1, 2, 0, 3, 4, 5, 6)
        rows = [set(kept(rule, requests)) for rule in QUEUES]
        self.assertTrue(all(smaller <= greater for smaller, greater in zip(rows, rows[1:])))
        for function in OF_REQUESTS:
            with self.assertRaises(NotNested) as caught:
                function(QUEUES, requests)
            self.assert_same(caught.exception.at, 5)


class GoingTest(Case):
    def test_going(self):
        self.assert_same(going(RECENTS, (5, 6, 7, 8)), (8, 7, 6, 5))
        self.assert_same(going(RECENTS[:2], (6, 5)), (5, 6))
        # The thing 9 came last and goes from all; the others are in no order.
        self.assert_same(going(NEWESTS, (8, 5, 7, 9)), (5, 7, 8, 9))
        self.assert_same(going(NEWESTS, (8, 5, 7, 3)), (5, 7, 8, 3))
        self.assert_same(going(RECENTS, (4, 4, 4)), (4,))

    def test_the_first_of_all_lists(self):
        count = 0
        for rules in NESTED:
            for requests in REQUESTS[:24] + REQUESTS[::7]:
                good = lists_of_what_goes(rules, requests)
                self.assert_same(going(rules, requests), good[0])
                for some in itertools.permutations(line(rules, requests)):
                    self.assertIs(shows_going(rules, requests, some), some in good)
                count += len(good) > 1
        self.assertGreater(count, 50)

    def test_where_it_breaks_with_one_request_more(self):
        later = 0
        for rules in OTHERS:
            for requests in REQUESTS[:12] + REQUESTS[24::5]:
                at = breaks_later(rules, requests)
                if at is None:
                    self.assert_same(going(rules, requests), lists_of_what_goes(rules, requests)[0])
                else:
                    later += at == len(requests) + 1
                    for told in ((), (requests,)):
                        with self.assertRaises(NotNested) as caught:
                            (shows_going if told else going)(rules, requests, *told)
                        self.assert_same(caught.exception.at, at)
        self.assertGreater(later, 15)

    def test_one_more_than_60(self):
        rules, requests = QUEUES[:3], (0, 1, 2) + (0,) * 57
        self.assertEqual((len(requests), breaks_at(rules, requests)), (60, None))
        for call in (lambda: going(rules, requests), lambda: shows_going(rules, requests, None)):
            with self.assertRaises(NotNested) as caught:
                call()
            self.assert_same(caught.exception.at, 61)
        self.assertEqual(line(rules, requests), (0, 2, 1))

    def test_one_more_whatever_was_asked_for(self):
        for first, second, third in itertools.permutations((97, 98, 99, 0, 1), 3):
            for function in (going, lambda rules, requests: shows_going(rules, requests, ())):
                with self.assertRaises(NotNested) as caught:
                    function(QUEUES[:3], (first, second, third, first))
                self.assert_same(caught.exception.at, 5)

    def test_wrong_lists(self):
        requests = (4, 0, 1, 3)
        self.assertEqual(going(RECENTS, requests), (3, 1, 0, 4))
        wrong = (
            (3, 1, 0), (3, 1, 0, 4, 4), (3, 1, 0, 4, 5), (3, 1, 0, 0), (3, 1, 0, 5), (5, 1, 0, 4), (3, 3, 1, 0, 4),
            (), (3, True, 0, 4), (3, 1, False, 4), (3, 1, 0, None), (3, 1, 0, (4,)), [3, 1, 0, 4], (3, 1, 0, [4]),
            (3, 1, 0, {4: 4}), (3, 1, 0, "4"), (3, 1, 0, 100), (3, 1, 0, -1), ((3, 1, 0, 4),), (4,) * 20000,
        )
        for value in ODD + wrong + (nested_deep(20),):
            self.assertIs(shows_going(RECENTS, requests, value), False)
        for value in [value for wrong in WRONG_PARTS for value in replaced((3, 1, 0, 4), wrong)]:
            self.assertIs(shows_going(RECENTS, requests, value), False)
        self.assertIs(shows_going(RECENTS, (), ()), True)
        self.assertIs(shows_going(RECENTS, (), (0,)), False)


class DistancesTest(Case):
    def test_distances(self):
        requests = (0, 1, 0, 2, 1, 1, 3, 0, 0, 4, 2)
        self.assert_same(distances(RECENTS, requests), (0, 0, 2, 0, 3, 1, 0, 4, 1, 0, 0))
        self.assert_same(distances(RECENTS[:2], requests), (0, 0, 2, 0, 0, 1, 0, 0, 1, 0, 0))
        self.assert_same(curve(RECENTS, requests), (9, 8, 7, 6))
        self.assert_same(curve(QUEUES[:1], (0, 0, 1)), (2,))

    def test_by_caches(self):
        for rules in NESTED:
            for requests in REQUESTS:
                found = distances(rules, requests)
                for at, thing in enumerate(requests):
                    row = line(rules, requests[:at])
                    self.assert_same(found[at], row.index(thing) + 1 if thing in row else 0)
                for rule in rules:
                    expected = tuple(0 < far <= rule[0] for far in found)
                    self.assertEqual(hits(rule, requests), expected)
                self.assert_same(curve(rules, requests), tuple(misses(rule, requests) for rule in rules))

    def test_no_greater_cache_has_more_misses(self):
        for rules in NESTED:
            for requests in REQUESTS:
                found = curve(rules, requests)
                self.assertEqual(list(found), sorted(found, reverse=True))

    def test_the_last_request_is_looked_at(self):
        requests = (0, 1, 2, 0, 3)
        self.assertIsNone(breaks_at(QUEUES, requests[:4]))
        self.assertEqual(distances(QUEUES, requests[:4]), (0, 0, 0, 3))
        for function in (distances, curve):
            with self.assertRaises(NotNested) as caught:
                function(QUEUES, requests)
            self.assert_same(caught.exception.at, 5)


class WrongTest(Case):
    def call(self, function, rules, requests):
        return function(rules, requests, ()) if function is shows_going else function(rules, requests)

    def test_no_family(self):
        for value in ODD + ((), [ONE], (QUEUE_2,), QUEUES[::-1], QUEUES + QUEUES[3:], QUEUES[1:], ONE, nested_deep(20)):
            self.assertRaises(NoFamily, family_nested, value)
            for function in LISTS + OF_REQUESTS:
                self.assertRaises(NoFamily, self.call, function, value, (0, 1))
        for value in replaced((ONE, QUEUE_2), True) + replaced((ONE,), False):
            self.assertRaises(NoFamily, family_nested, value)
            self.assertRaises(NoFamily, line, value, ())

    def test_no_requests(self):
        wrong = ((0,) * 61, list(range(3)), (0, True), (-1,), (100,), (None,), ((0,),), "01", nested_deep(20))
        for value in ODD + wrong:
            for function in LISTS + OF_REQUESTS:
                self.assertRaises(NoRequests, self.call, function, QUEUES, value)
        for function in LISTS + OF_REQUESTS:
            self.call(function, RECENTS, tuple(range(60)))

    def test_which_error_comes_first(self):
        for value in ODD:
            for function in LISTS + OF_REQUESTS:
                self.assertRaises(NoFamily, self.call, function, value, value)
        # No requests, although the first of them would lead to what is not nested.
        for function in LISTS + OF_REQUESTS:
            self.assertRaises(NoRequests, self.call, function, QUEUES, (0, 1, 2, 0, 3, None))
            self.assertRaises(NotNested, self.call, function, QUEUES, (0, 1, 2, 0, 3))


class GeneralTest(Case):
    def test_by_name(self):
        self.assertEqual(family_nested(family=QUEUES), family_nested(QUEUES))
        for function in OF_REQUESTS:
            self.assertEqual(function(requests=(3, 4), family=RECENTS), function(RECENTS, (3, 4)))
        self.assertIs(shows_going(thing=(4, 3), requests=(3, 4), family=RECENTS), True)

    def test_nothing_is_modified(self):
        for value in ODD + (QUEUES, RECENTS, list(RECENTS), (3, 4, 3), [3, 4]):
            self.assert_unmodified(value, (
                lambda: family_nested(value), lambda: shows_going(RECENTS, (3, 4), value),
                lambda: going(value, (3, 4)), lambda: going(RECENTS, value), lambda: line(value, (3, 4)),
                lambda: distances(RECENTS, value), lambda: curve(value, (3, 4)), lambda: curve(RECENTS, value)))

    def test_again_gives_the_same(self):
        for rules in NESTED:
            for requests in REQUESTS[::20]:
                first = [function(rules, requests) for function in OF_REQUESTS]
                self.assertRaises(NotNested, line, QUEUES, (0, 1, 2, 0, 3))
                self.assert_same([function(rules, requests) for function in OF_REQUESTS], first)
            self.assert_same(family_nested(rules), family_nested(rules))

    def test_renaming_things_changes_only_names(self):
        names = {thing: (thing * 37 + 5) % 100 for thing in range(100)}
        for rules in NESTED:
            for requests in REQUESTS[:24]:
                other = tuple(names[thing] for thing in requests)
                self.assertEqual(line(rules, other), tuple(names[thing] for thing in line(rules, requests)))
                self.assertEqual(distances(rules, other), distances(rules, requests))
                self.assertEqual(curve(rules, other), curve(rules, requests))
                self.assertIs(shows_going(rules, other, tuple(names[thing] for thing in going(rules, requests))),
                              True)

    def test_what_apart_tells_is_shown(self):
        for rules in OTHERS:
            told = family_nested(rules)
            if told[0] == "apart":
                smaller, greater = rules[told[1] - 1], rules[told[1]]
                self.assertIs(shows_nested(smaller, greater, ("apart", told[2])), True)


if __name__ == "__main__":
    unittest.main()
