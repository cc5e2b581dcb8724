"""Tests of goesout.pairs: points 1, 2, 3, 30 and 90."""

import copy
import itertools
import random
import unittest

from goesout.errors import NoArrangement, NoNumber, NoRule, NoWalk, TooMany
from goesout.named import queue, recent
from goesout.pairs import arrangements, is_arrangement, moved, played, start, walked
from goesout.rules import asked, beginning
from goesout.runs import behind, hits
from tests.samples import (
    MIXED, NARROW, NEWEST_2, ODD, ONE, PAIRS, QUEUE_2, QUEUE_3, RECENT_2, RECENT_3, WIDE, WRONG_PARTS, Case,
    all_walks, by_names, made_rule, nested_deep, replaced, reshaped, slow_graph, slow_moves, slow_walk,
)

QUEUES = (QUEUE_2, QUEUE_3)
APART = (0, 1, 2, 2, 3)
# Pairs by the number of their arrangements.
MANY = {many: (queue(4), made_rule(4, 9, seed))
        for many, seed in ((1998, 68), (1999, 110), (2000, 443), (2001, 273), (2002, 276))}


def made_walk(one, other, many, seed):
    """Return a walk of so many moves, always the same for a seed."""
    source, at, walk = random.Random(seed), (beginning(one), beginning(other)), ()
    graph = slow_graph(one, other)
    for _ in range(many):
        walk += (source.randrange(len(graph[at])),)
        at = graph[at][walk[-1]][2]
    return walk


class StartTest(Case):
    def test_start(self):
        self.assert_same(start(ONE, QUEUE_3), (((-1,), 0), ((-1, -1, -1), 0)))
        for one, other in PAIRS:
            self.assert_same(start(one, other), (beginning(one), beginning(other)))
            self.assertIs(is_arrangement(one, other, start(one, other)), True)


class IsArrangementTest(Case):
    def test_all_small_rows(self):
        for one, other in ((RECENT_2, QUEUE_2), (ONE, RECENT_3), (QUEUE_3, ONE)):
            count = 0
            for row in itertools.product(range(-1, 5), repeat=one[0]):
                for other_row in itertools.product(range(-1, 5), repeat=other[0]):
                    # Things are different in each row, and numbered as they come.
                    things = [thing for thing in row if thing >= 0]
                    others = [thing for thing in other_row if thing >= 0]
                    lacked = [thing for thing in others if thing not in things]
                    good = (things == list(range(len(things))) and len(set(others)) == len(others)
                            and lacked == list(range(len(things), len(things) + len(lacked))))
                    found = is_arrangement(one, other, ((row, 0), (other_row, 0)))
                    self.assertIs(found, good)
                    count += good
            self.assertGreater(count, 10)

    def test_also_where_no_walk_leads(self):
        value = (((-1, 0), 0), ((-1, -1, -1), 0))
        self.assertNotIn(value, arrangements(*QUEUES))
        self.assertIs(is_arrangement(*QUEUES, value), True)
        self.assertIs(is_arrangement(*QUEUES, (((0, 1), 0), ((2, 3, 4), 0))), True)
        self.assertIs(is_arrangement(WIDE, WIDE, (((0, 1, 2, 3), 5), ((4, 5, 6, 7), 15))), True)

    def test_numbers_as_they_come(self):
        for value in ((((1, 0), 0), ((0, 1, -1), 0)), (((0, 1), 0), ((3, 0, -1), 0)),
                      (((0, 2), 0), ((0, 1, -1), 0)), (((-1, -1), 0), ((1, -1, -1), 0)),
                      (((0, 1), 0), ((3, 2, -1), 0)), (((0, 0), 0), ((0, -1, -1), 0))):
            self.assertIs(is_arrangement(*QUEUES, value), False)
        for value in ((((0, 1), 0), ((0, 1, -1), 0)), (((0, 1), 0), ((1, 0, 2), 0)),
                      (((0, -1), 0), ((1, -1, 0), 0)), (((-1, 0), 0), ((1, 2, 3), 0))):
            self.assertIs(is_arrangement(*QUEUES, value), True)

    def test_labels_and_places(self):
        for label in range(-1, 5):
            value = (((-1, -1), 0), ((0, -1, -1), label))
            self.assertIs(is_arrangement(RECENT_2, MIXED, value), 0 <= label < 3)
        self.assertIs(is_arrangement(QUEUE_3, QUEUE_2, start(*QUEUES)), False)

    def test_odd_values(self):
        for value in ODD + (nested_deep(20), (0,) * 20000, ((0, 1), (0, 1)), beginning(QUEUE_2)):
            for one, other in PAIRS:
                self.assertIs(is_arrangement(one, other, value), False)

    def test_wrong_parts_and_shapes(self):
        good = (((0, -1, 1), 1), ((1, 0), 0))
        self.assertIs(is_arrangement(MIXED, RECENT_2, good), True)
        for wrong in WRONG_PARTS:
            for value in replaced(good, wrong):
                self.assertIs(is_arrangement(MIXED, RECENT_2, value), False)
        for value in reshaped(good):
            self.assertIs(is_arrangement(MIXED, RECENT_2, value), False)


class MovedTest(Case):
    def test_moved(self):
        at = (((2, 0), 0), ((1, 2, 0), 0))
        self.assertIs(is_arrangement(*QUEUES, at), False)
        at = (((0, 1), 0), ((2, 0, 1), 0))
        self.assert_same(moved(*QUEUES, at, 0), (True, True, at))
        self.assert_same(moved(*QUEUES, at, 2), (False, True, (((0, 1), 0), ((0, 1, 2), 0))))
        self.assert_same(moved(*QUEUES, at, 3), (False, False, (((0, 1), 0), ((0, 2, 1), 0))))
        at = (((0, 1), 0), ((1, -1, -1), 0))
        self.assert_same(moved(*QUEUES, at, 0), (True, False, (((0, 1), 0), ((0, 1, -1), 0))))

    def test_all_moves_of_all_arrangements(self):
        for one, other in PAIRS:
            for at, moves in slow_graph(one, other).items():
                for number, expected in enumerate(moves):
                    self.assert_same(moved(one, other, at, number), expected)

    def test_where_no_walk_leads(self):
        for rows in itertools.product(((0, 1), (-1, 0), (0, -1), (-1, -1)),
                                      ((0, 1, 2), (2, 3, 4), (2, -1, 0), (-1, -1, -1))):
            for label in range(3):
                at = by_names((rows[0], 0), (rows[1], label))
                for number, expected in enumerate(slow_moves(NEWEST_2, MIXED, at)):
                    self.assert_same(moved(NEWEST_2, MIXED, at, number), expected)

    def test_numbers(self):
        for at, many in ((start(*QUEUES), 0), ((((0, 1), 0), ((2, 0, 1), 0)), 3),
                         ((((0, 1), 0), ((2, 3, 4), 0)), 5), ((((-1, 0), 0), ((-1, -1, 1), 0)), 2)):
            for number in range(-3, 9):
                if 0 <= number <= many:
                    self.assertEqual(moved(*QUEUES, at, number), slow_moves(*QUEUES, at)[number])
                else:
                    self.assertRaises(NoNumber, moved, *QUEUES, at, number)
            for wrong in (None, True, False, "0", (0,), [0], {}, 10 ** 12, ()):
                self.assertRaises(NoNumber, moved, *QUEUES, at, wrong)

    def test_wrong_arrangements(self):
        good = (((0, -1), 0), ((1, 0, -1), 0))
        self.assertEqual(len(moved(*QUEUES, good, 0)), 3)
        for value in ODD + tuple(reshaped(good)) + ((((1, -1), 0), ((0, 1, -1), 0)),):
            self.assertRaises(NoArrangement, moved, *QUEUES, value, 0)
        for wrong in WRONG_PARTS:
            for value in replaced(good, wrong):
                self.assertRaises(NoArrangement, moved, *QUEUES, value, 0)


class WalkTest(Case):
    def test_the_session_of_the_document(self):
        self.assert_same(played(queue(2), queue(3), APART), (0, 1, 2, 0, 3))
        self.assert_same(walked(queue(2), queue(3), APART), (((0, 1), 0), ((0, 2, 3), 0)))

    def test_the_empty_walk(self):
        for one, other in PAIRS:
            self.assert_same(walked(one, other, ()), start(one, other))
            self.assert_same(played(one, other, ()), ())

    def test_short_walks(self):
        for one, other in PAIRS:
            for walk, moves in all_walks(one, other, 3):
                at = moves[-1][2] if moves else start(one, other)
                self.assert_same(walked(one, other, walk), at)
                requests = played(one, other, walk)
                self.assert_same(hits(one, requests), tuple(move[0] for move in moves))
                self.assert_same(hits(other, requests), tuple(move[1] for move in moves))
                self.assert_same(by_names(behind(one, requests), behind(other, requests)), at)

    def test_played_names_new_things_in_order(self):
        for one, other in PAIRS:
            for seed in range(3):
                requests = played(one, other, made_walk(one, other, 50, seed))
                first = [thing for at, thing in enumerate(requests) if thing not in requests[:at]]
                # A thing that is in neither cache any more does not come again.
                self.assertEqual(first, list(range(len(first))))
                self.assertEqual(len(requests), 50)

    def test_what_is_gone_does_not_come_again(self):
        self.assert_same(played(ONE, ONE, (0, 1, 1, 0, 1)), (0, 1, 2, 2, 3))
        self.assert_same(played(ONE, QUEUE_2, (0, 1, 1, 2, 2)), (0, 1, 0, 2, 3))

    def test_walks_longer_than_60(self):
        for one, other in PAIRS[:14]:
            walk = made_walk(one, other, 300, 5)
            moves = slow_walk(one, other, walk)
            self.assert_same(walked(one, other, walk), moves[-1][2])
            state, other_state = beginning(one), beginning(other)
            for thing, move in zip(played(one, other, walk)[:60], moves):
                is_hit, _, state = asked(one, state, thing)
                is_other_hit, _, other_state = asked(other, other_state, thing)
                self.assertEqual((is_hit, is_other_hit, by_names(state, other_state)), move)

    def test_very_long_walks(self):
        walk = (0, 1) + (2,) * 1999
        self.assert_same(played(ONE, RECENT_2, walk), tuple(range(2001)))
        self.assert_same(walked(ONE, RECENT_2, walk), (((0,), 0), ((0, 1), 0)))
        self.assert_same(played(ONE, RECENT_2, (0,) + (1,) * 3000), (0,) + (1, 0) * 1500)
        self.assert_same(played(ONE, ONE, (0,) * 20000), (0,) * 20000)

    def test_no_walk(self):
        for function in (walked, played):
            for value in ODD + ([0, 1], "01", {0: 1}, (1,), (0, 2), (0, 1, 3), (0, -1), (0, 1, 2, 4),
                                APART + (5,), (0,) * 100 + (2,), nested_deep(20), (APART,)):
                self.assertRaises(NoWalk, function, *QUEUES, value)
            for wrong in WRONG_PARTS + ((),):
                for at in range(5):
                    value = APART[:at] + (wrong,) + APART[at + 1:]
                    self.assertRaises(NoWalk, function, *QUEUES, value)
            self.assertRaises(NoWalk, function, *QUEUES, list(APART))


class ArrangementsTest(Case):
    def test_small_pairs(self):
        self.assert_same(arrangements(ONE, ONE), ((((-1,), 0), ((-1,), 0)), (((0,), 0), ((0,), 0))))
        self.assert_same(arrangements(RECENT_2, QUEUE_2), (
            (((-1, -1), 0), ((-1, -1), 0)), (((0, -1), 0), ((0, -1), 0)), (((0, 1), 0), ((0, 1), 0)),
            (((0, 1), 0), ((0, 2), 0)), (((0, 1), 0), ((1, 0), 0))))

    def test_all_to_which_walks_lead_ascending(self):
        for one, other in PAIRS + ((recent(4), queue(3)), (NARROW, ONE)):
            self.assert_same(arrangements(one, other), tuple(sorted(slow_graph(one, other))))

    def test_the_limit(self):
        for many, (one, other) in MANY.items():
            if many <= 2000:
                self.assertEqual(len(arrangements(one, other)), many)
            else:
                self.assertRaises(TooMany, arrangements, one, other)

    def test_too_many(self):
        for one, other in ((made_rule(4, 16, 1), queue(4)), (WIDE, made_rule(4, 16, 2)),
                           (made_rule(3, 16, 3), made_rule(4, 16, 4))):
            with self.assertRaises(TooMany) as caught:
                arrangements(one, other)
            self.assert_same(caught.exception.limit, 2000)


class WrongTest(Case):
    def test_no_rule(self):
        calls = ((start, ()), (is_arrangement, (None,)), (moved, (start(*QUEUES), 0)), (walked, ((),)),
                 (played, ((),)), (arrangements, ()))
        for function, rest in calls:
            for value in ODD + (nested_deep(20), (2, [QUEUE_2[1][0]])):
                self.assertRaises(NoRule, function, value, QUEUE_3, *rest)
                self.assertRaises(NoRule, function, QUEUE_2, value, *rest)
                self.assertRaises(NoRule, function, value, value, *rest)
            for value in replaced(QUEUE_2, True):
                self.assertRaises(NoRule, function, value, QUEUE_3, *rest)
                self.assertRaises(NoRule, function, QUEUE_3, value, *rest)

    def test_which_error_comes_first(self):
        for wrong in ODD:
            self.assertRaises(NoRule, moved, wrong, QUEUE_3, wrong, wrong)
            self.assertRaises(NoRule, moved, QUEUE_2, wrong, wrong, wrong)
            self.assertRaises(NoArrangement, moved, *QUEUES, wrong, wrong)
            for function in (walked, played):
                self.assertRaises(NoRule, function, QUEUE_2, wrong, wrong)
        self.assertRaises(NoRule, arrangements, WIDE, None)


class GeneralTest(Case):
    def test_by_name(self):
        first = start(*QUEUES)
        self.assertEqual(start(other=QUEUE_3, one=QUEUE_2), first)
        self.assertIs(is_arrangement(thing=first, other=QUEUE_3, one=QUEUE_2), True)
        self.assertEqual(moved(number=0, arrangement=first, other=QUEUE_3, one=QUEUE_2),
                         moved(*QUEUES, first, 0))
        self.assertEqual(walked(walk=APART, other=QUEUE_3, one=QUEUE_2), walked(*QUEUES, APART))
        self.assertEqual(played(walk=APART, other=QUEUE_3, one=QUEUE_2), played(*QUEUES, APART))
        self.assertEqual(arrangements(other=QUEUE_3, one=QUEUE_2), arrangements(*QUEUES))

    def test_nothing_is_modified(self):
        for value in ODD + PAIRS[:9] + (APART, list(APART), start(*QUEUES), nested_deep(20)):
            self.assert_unmodified(value, (
                lambda: start(value, ONE), lambda: is_arrangement(*QUEUES, value),
                lambda: moved(*QUEUES, value, 0), lambda: moved(*QUEUES, start(*QUEUES), value),
                lambda: walked(*QUEUES, value), lambda: played(*QUEUES, value),
                lambda: arrangements(ONE, value)))

    def test_again_gives_the_same(self):
        for one, other in PAIRS:
            first = copy.deepcopy(arrangements(one, other))
            walk = made_walk(one, other, 20, 7)
            told = walked(one, other, walk), played(one, other, walk)
            self.assertRaises(NoWalk, walked, one, other, walk + (9,))
            self.assert_same(arrangements(one, other), first)
            self.assert_same((walked(one, other, walk), played(one, other, walk)), told)


if __name__ == "__main__":
    unittest.main()
