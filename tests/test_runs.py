"""Tests of goesout.runs: points 2, 3 and 13."""

import itertools
import unittest

from goesout.errors import NoRequests, NoRule
from goesout.rules import asked, beginning, is_state
from goesout.runs import behind, gone, hits, is_requests, kept, misses
from tests.samples import (
    MIXED, NARROW, NEWEST_2, ODD, ONE, QUEUE_2, QUEUE_3, RECENT_2, RULES, WIDE, Case, nested_deep,
    replaced, reshaped,
)

FUNCTIONS = (behind, kept, hits, gone, misses)
SESSION = (0, 1, 0, 2, 0, 1)

# None of these is a thing, so a tuple that holds one is no requests.
WRONG_PARTS = (None, True, False, "", "0", [], {}, [0], {0: 0}, -1, -2, 100, (), (0,), ((0,),))


def made_up(length, seed):
    """Return requests of some things, always the same for a seed."""
    number, found = seed, []
    for _ in range(length):
        number = (number * 1103515245 + 12345) % 2 ** 31
        found.append((0, 99, 3, 50, 7, 1)[number // 65536 % 6])
    return tuple(found)


class IsRequestsTest(Case):
    def test_lengths(self):
        for many in range(65):
            self.assertIs(is_requests((7,) * many), many <= 60)
        self.assertIs(is_requests((7,) * 20000), False)

    def test_things(self):
        for thing in range(-3, 103):
            self.assertIs(is_requests((thing,)), 0 <= thing <= 99)
            self.assertIs(is_requests((5, 6, thing)), 0 <= thing <= 99)

    def test_a_thing_twice_in_a_row(self):
        self.assertIs(is_requests((5, 5, 0, 0, 5)), True)

    def test_the_last_of_60(self):
        self.assertIs(is_requests((0,) * 59 + (100,)), False)
        self.assertIs(is_requests((0,) * 59 + (True,)), False)
        self.assertIs(is_requests((0,) * 59 + (99,)), True)

    def test_odd_values(self):
        for value in ODD + (nested_deep(20), [0, 1], "01", {0: 0}, NoRule("words")):
            self.assertIs(is_requests(value), False)

    def test_wrong_parts(self):
        for wrong in WRONG_PARTS:
            for at in range(3):
                value = (0, 1, 2)[:at] + (wrong,) + (0, 1, 2)[at + 1:]
                self.assertIs(is_requests(value), False)
        for value in ([], [0], list(SESSION), (SESSION,), ([0],), ((),)):
            self.assertIs(is_requests(value), False)


class SessionTest(Case):
    def test_the_session_of_the_document(self):
        self.assert_same(hits(RECENT_2, SESSION), (False, False, True, False, True, False))
        self.assert_same(kept(RECENT_2, SESSION), (0, 1))
        self.assert_same(misses(QUEUE_2, SESSION), 5)
        self.assert_same(kept(QUEUE_2, (0, 1, 2, 0, 3)), (0, 3))
        self.assert_same(kept(QUEUE_3, (0, 1, 2, 0, 3)), (1, 2, 3))

    def test_behind(self):
        self.assert_same(behind(RECENT_2, SESSION), ((1, 0), 0))
        self.assert_same(behind(QUEUE_2, SESSION), ((1, 0), 0))
        self.assert_same(behind(QUEUE_2, SESSION[:5]), ((0, 2), 0))
        self.assert_same(behind(NEWEST_2, SESSION), ((1, 0), 0))
        self.assert_same(behind(QUEUE_3, (8,)), ((8, -1, -1), 0))
        # MIXED: 5 comes to place 0 (BACK, 2), then 6 to place 0 under label 2.
        self.assert_same(behind(MIXED, (5,)), ((-1, 5, -1), 2))
        self.assert_same(behind(MIXED, (5, 6)), ((6, -1, 5), 0))

    def test_kept_is_ascending_without_blanks(self):
        self.assert_same(kept(QUEUE_3, (9, 3)), (3, 9))
        self.assert_same(kept(QUEUE_3, (9, 99, 0)), (0, 9, 99))
        self.assert_same(kept(WIDE, (7,)), (7,))

    def test_gone(self):
        self.assert_same(gone(RECENT_2, SESSION), (None, None, None, 1, None, 2))
        self.assert_same(gone(QUEUE_2, SESSION), (None, None, None, 0, 1, 2))
        self.assert_same(gone(NEWEST_2, SESSION), (None, None, None, 0, 2, None))
        self.assert_same(gone(ONE, (0, 0, 1, 0)), (None, None, 0, 1))

    def test_hits_and_misses(self):
        self.assert_same(hits(QUEUE_2, SESSION), (False, False, True, False, False, False))
        self.assert_same(misses(RECENT_2, SESSION), 4)
        self.assert_same(misses(ONE, SESSION), 6)
        self.assert_same(misses(ONE, (4, 4, 4)), 1)

    def test_a_thing_twice_in_a_row_is_a_hit(self):
        for rule in RULES:
            self.assert_same(hits(rule, (5, 5, 5)), (False, True, True))

    def test_no_requests(self):
        for rule in RULES:
            self.assert_same(behind(rule, ()), beginning(rule))
            self.assert_same(kept(rule, ()), ())
            self.assert_same(hits(rule, ()), ())
            self.assert_same(gone(rule, ()), ())
            self.assert_same(misses(rule, ()), 0)


class RunTest(Case):
    def check_run(self, rule, requests):
        """What the functions return is what asked tells, one after another."""
        state, found_hits, found_gone = beginning(rule), [], []
        for thing in requests:
            is_hit, lost, state = asked(rule, state, thing)
            found_hits.append(is_hit)
            found_gone.append(lost)
        self.assert_same(behind(rule, requests), state)
        self.assert_same(hits(rule, requests), tuple(found_hits))
        self.assert_same(gone(rule, requests), tuple(found_gone))
        self.assert_same(misses(rule, requests), sum(not hit for hit in found_hits))
        self.assert_same(kept(rule, requests), tuple(sorted(set(state[0]) - {-1})))
        self.assertIs(is_state(rule, behind(rule, requests)), True)

    def test_all_short_requests(self):
        for rule in RULES:
            for many in range(5):
                for requests in itertools.product((0, 50, 99), repeat=many):
                    self.check_run(rule, requests)

    def test_long_requests(self):
        for rule in RULES:
            for many in (10, 30, 59, 60):
                self.check_run(rule, made_up(many, many))

    def test_60_different_things(self):
        requests = tuple(range(40, 100))
        self.assertEqual(kept(QUEUE_3, requests), (97, 98, 99))
        self.assertEqual(misses(QUEUE_3, requests), 60)
        self.assertEqual(gone(QUEUE_3, requests), (None,) * 3 + tuple(range(40, 97)))

    def test_renaming_things_changes_only_names(self):
        names = {0: 41, 99: 0, 3: 99, 50: 12, 7: 3, 1: 50}
        for rule in RULES:
            requests = made_up(60, 9)
            other = tuple(names[thing] for thing in requests)
            self.assertEqual(hits(rule, requests), hits(rule, other))
            self.assertEqual([None if thing is None else names[thing]
                              for thing in gone(rule, requests)], list(gone(rule, other)))


class WrongTest(Case):
    def test_no_rule(self):
        for function in FUNCTIONS:
            for value in ODD + (nested_deep(20),):
                self.assertRaises(NoRule, function, value, (0, 1))
            for value in reshaped(ONE):
                # The one label row twice is a rule all the same.
                if value != (1, ONE[1] * 2):
                    self.assertRaises(NoRule, function, value, (0, 1))
            for value in replaced(NARROW, True):
                self.assertRaises(NoRule, function, value, ())

    def test_no_requests(self):
        for function in FUNCTIONS:
            for value in ODD + ((0,) * 61, tuple(range(61)), list(SESSION), (0, True), (-1,), (100,)):
                self.assertRaises(NoRequests, function, RECENT_2, value)
            for wrong in WRONG_PARTS:
                self.assertRaises(NoRequests, function, RECENT_2, (0, 1, wrong))

    def test_which_error_comes_first(self):
        for function in FUNCTIONS:
            for value in ODD:
                self.assertRaises(NoRule, function, value, value)
                self.assertRaises(NoRule, function, value, (0,) * 61)


class GeneralTest(Case):
    def test_by_name(self):
        self.assertIs(is_requests(thing=SESSION), True)
        for function in FUNCTIONS:
            expected = function(RECENT_2, SESSION)
            self.assert_same(function(requests=SESSION, rule=RECENT_2), expected)
            self.assert_same(function(RECENT_2, requests=SESSION), expected)

    def test_nothing_is_modified(self):
        for value in ODD + RULES + (SESSION, list(SESSION), nested_deep(20)):
            for function in FUNCTIONS:
                self.assert_unmodified(value, (
                    lambda: is_requests(value), lambda: function(value, SESSION),
                    lambda: function(RECENT_2, value), lambda: function(value, value)))

    def test_again_gives_the_same(self):
        for function in FUNCTIONS:
            for rule in RULES:
                first = function(rule, SESSION)
                function(rule, made_up(20, 3))
                self.assertRaises(NoRequests, function, rule, (0, None))
                self.assert_same(function(rule, SESSION), first)


if __name__ == "__main__":
    unittest.main()
