"""Tests of goesout.writes: points 2, 3, 70 and 90."""

import itertools
import random
import unittest

from goesout.errors import NoAccesses, NoFamily, NoRule, NotNested
from goesout.lists import curve
from goesout.named import chance, family, newest, queue, recent, segments, tree
from goesout.runs import behind, gone, hits, kept
from goesout.writes import is_accesses, line_writebacks, writebacks
from tests.samples import (
    ODD, ONE, QUEUE_2, QUEUE_3, RECENT_2, RULES, Case, by_turns, made_rule, nested_deep, replaced, reshaped,
)

RECENTS, NEWESTS, QUEUES = family(recent, 4), family(newest, 4), family(queue, 4)
TURNS = tuple(by_turns(places, (True, False, False)) for places in range(1, 5))
MANY_RULES = RULES + (chance(3), tree(4), segments(2, 1), made_rule(4, 5, 1))
# 0, 1 and 2 come, 0 goes and comes again, 3 comes.
SESSION = ((0, True), (1, False), (2, True), (0, False), (3, True))
# What may stand for a part of an access, so that it is none.
WRONG = (None, "", "0", [], {}, [0], {0: 0}, -1, -2, 2, 100, (), (0,), (None,))


def made_accesses(seed, things, many=60):
    """Return so many accesses to so many things, always the same for a seed."""
    source = random.Random(seed)
    return tuple((source.choice(range(99, 99 - things, -1)), source.random() < 0.4) for _ in range(many))


ACCESSES = [made_accesses(seed, things) for seed in range(4) for things in (1, 2, 3, 5, 8, 30)]
ACCESSES += [accesses for many in range(4)
             for accesses in itertools.product(itertools.product((7, 0, 3), (False, True)), repeat=many)]


def things_of(accesses):
    return tuple(thing for thing, _ in accesses)


def slow_writebacks(rule, accesses):
    """Count the times that a thing is there, from coming to going, in which it is written."""
    things, many = things_of(accesses), 0
    told = list(zip(hits(rule, things), gone(rule, things)))
    for begin, (is_hit, _) in enumerate(told):
        if not is_hit:
            end = [at for at, (_, lost) in enumerate(told) if at > begin and lost == things[begin]]
            stay = accesses[begin:min(end, default=len(accesses))]
            many += any(thing == things[begin] and is_write for thing, is_write in stay)
    return many


class IsAccessesTest(Case):
    def test_lengths(self):
        for many in range(65):
            self.assertIs(is_accesses(((7, True),) * many), many <= 60)
        self.assertIs(is_accesses(((7, True),) * 9000), False)

    def test_things(self):
        for thing in range(-3, 103):
            self.assertIs(is_accesses(((thing, False),)), 0 <= thing <= 99)
            self.assertIs(is_accesses(SESSION + ((thing, True),)), 0 <= thing <= 99)

    def test_is_write_is_a_bool(self):
        for is_write in (0, 1, -1, None, "", "True", [], (True,), 2):
            self.assertIs(is_accesses(((5, is_write),)), False)
        for thing in (True, False):
            self.assertIs(is_accesses(((thing, True),)), False)
            self.assertIs(is_accesses(SESSION + ((thing, False),)), False)

    def test_odd_values(self):
        for value in ODD + (nested_deep(20), [(0, True)], ([0, True],), (0, True), ((0, True, False),), ((0,),),
                            "01", {(0, True): 0}, NoRule("words"), (NoRule("words"),), ((0, NoRule("words")),)):
            self.assertIs(is_accesses(value), False)
        self.assertIs(is_accesses(()), True)
        for accesses in ACCESSES:
            self.assertIs(is_accesses(accesses), True)

    def test_wrong_parts_and_shapes(self):
        for value in [value for wrong in WRONG for value in replaced(SESSION, wrong)]:
            good = value == () or value in [SESSION[:at] + ((2, access[1]),) + SESSION[at + 1:]
                                            for at, access in enumerate(SESSION)]
            self.assertIs(is_accesses(value), good)
        for value in reshaped(SESSION):
            # Accesses that are left out or stand twice are accesses all the same.
            good = type(value) is tuple and all(type(part) is tuple and len(part) == 2 for part in value)
            self.assertIs(is_accesses(value), good and all(type(part[1]) is bool for part in value))


class WritebacksTest(Case):
    def test_by_hand(self):
        # 0 goes dirty, 2 and 3 are dirty at the end.
        self.assert_same(writebacks(RECENT_2, SESSION), 3)
        self.assert_same(writebacks(RECENT_2, SESSION[:4]), 2)
        self.assert_same(writebacks(QUEUE_3, SESSION), 3)
        self.assert_same(writebacks(ONE, SESSION), 3)
        self.assert_same(writebacks(ONE, ((0, False), (1, False), (0, False))), 0)

    def test_no_accesses(self):
        for rule in MANY_RULES:
            self.assert_same(writebacks(rule, ()), 0)
        for rules in (RECENTS, QUEUES, (ONE,)):
            self.assert_same(line_writebacks(rules, ()), (0,) * len(rules))

    def test_written_several_times(self):
        for many in range(1, 61):
            self.assert_same(writebacks(RECENT_2, ((5, True),) * many), 1)
            self.assert_same(writebacks(RECENT_2, ((5, False),) * (many - 1) + ((5, True),)), 1)
            self.assert_same(writebacks(RECENT_2, ((5, True),) + ((5, False),) * (many - 1)), 1)
        self.assert_same(writebacks(ONE, ((5, True), (5, True), (6, False), (5, False))), 1)

    def test_goes_and_comes_back(self):
        # Once for each time that it is there.
        self.assert_same(writebacks(ONE, ((5, True), (6, False), (5, True), (6, False), (5, True))), 3)
        # What comes back is clean.
        self.assert_same(writebacks(ONE, ((5, True), (6, False), (5, False), (6, False))), 1)
        self.assert_same(writebacks(ONE, ((5, False), (6, False), (5, True), (6, False))), 1)
        self.assert_same(writebacks(ONE, ((5, True), (6, True)) * 30), 60)

    def test_dirty_at_the_end(self):
        for rule in MANY_RULES:
            accesses = tuple((thing, True) for thing in range(rule[0]))
            self.assert_same(writebacks(rule, accesses), rule[0])
            self.assert_same(writebacks(rule, accesses[:-1] + ((rule[0] - 1, False),)), rule[0] - 1)

    def test_all_written(self):
        for accesses in ACCESSES:
            things = things_of(accesses)
            for rule in MANY_RULES:
                # Each thing that goes, and each that is there at the end.
                many = sum(lost is not None for lost in gone(rule, things)) + len(kept(rule, things))
                self.assert_same(writebacks(rule, tuple((thing, True) for thing in things)), many)
                self.assert_same(writebacks(rule, tuple((thing, False) for thing in things)), 0)

    def test_by_the_times_in_which_things_are_there(self):
        found = {}
        for accesses in ACCESSES:
            for rule in MANY_RULES:
                expected = slow_writebacks(rule, accesses)
                self.assert_same(writebacks(rule, accesses), expected)
                found[expected] = True
        self.assertGreater(len(found), 15)

    def test_one_write_more(self):
        # One more write is one more that is written back, or none more.
        for accesses in ACCESSES[:24]:
            many = writebacks(RECENT_2, accesses)
            for at, (thing, is_write) in enumerate(accesses):
                more = accesses[:at] + ((thing, True),) + accesses[at + 1:]
                self.assertIn(writebacks(RECENT_2, more) - many, (0,) if is_write else (0, 1))


class LineTest(Case):
    def test_by_hand(self):
        self.assert_same(line_writebacks(RECENTS, SESSION), (3, 3, 3, 3))
        accesses = ((0, True), (1, False), (0, True), (2, False), (1, True))
        self.assert_same(line_writebacks(RECENTS, accesses), (3, 2, 2, 2))
        self.assert_same(line_writebacks((ONE,), SESSION), (3,))

    def test_what_each_cache_tells(self):
        for rules in (RECENTS, NEWESTS, TURNS, RECENTS[:1], NEWESTS[:2], (ONE,), (ONE, QUEUE_2)):
            for accesses in ACCESSES:
                self.assert_same(line_writebacks(rules, accesses), tuple(writebacks(rule, accesses) for rule in rules))

    def test_not_nested(self):
        rest = tuple((thing, thing % 2 == 0) for thing in range(4, 58))
        accesses = tuple((thing, True) for thing in (0, 1, 2, 0, 3)) + rest
        self.assert_same(line_writebacks(QUEUES, accesses[:4]), (4, 4, 3, 3))
        for many in range(5, 60):
            with self.assertRaises(NotNested) as caught:
                line_writebacks(QUEUES, accesses[:many])
            self.assert_same(caught.exception.at, 5)

    def test_not_nested_as_curve_tells(self):
        broken = 0
        for rules in (QUEUES, family(chance, 4), (ONE, made_rule(2, 3, 1), made_rule(3, 2, 2), made_rule(4, 2, 3))):
            for accesses in ACCESSES:
                try:
                    curve(rules, things_of(accesses))
                except NotNested as error:
                    with self.assertRaises(NotNested) as caught:
                        line_writebacks(rules, accesses)
                    self.assert_same(caught.exception.at, error.at)
                    broken += 1
                else:
                    self.assertEqual(line_writebacks(rules, accesses),
                                     tuple(writebacks(rule, accesses) for rule in rules))
        self.assertGreater(broken, 20)

    def test_nested_again_later(self):
        accesses = tuple((thing, True) for thing in (0, 1, 2, 0, 3, 4, 5, 6))
        rows = [set(behind(rule, things_of(accesses))[0]) for rule in QUEUES]
        self.assertTrue(all(smaller <= greater for smaller, greater in zip(rows, rows[1:])))
        self.assertRaises(NotNested, line_writebacks, QUEUES, accesses)


class WrongTest(Case):
    def test_no_rule_and_no_family(self):
        for value in ODD + (nested_deep(20), (2, [QUEUE_2[1][0]]), RECENTS):
            self.assertRaises(NoRule, writebacks, value, SESSION)
        for value in ODD + ((), [ONE], (QUEUE_2,), QUEUES[::-1], QUEUES[1:], ONE, nested_deep(20)):
            self.assertRaises(NoFamily, line_writebacks, value, SESSION)
        for value in replaced(QUEUE_2, True):
            self.assertRaises(NoRule, writebacks, value, SESSION)
            self.assertRaises(NoFamily, line_writebacks, (ONE, value), SESSION)

    def test_no_accesses(self):
        wrong = ((0,) * 3, SESSION + ((True, True),), SESSION + ((4, 1),), SESSION + ([4, True],), list(SESSION),
                 ((0, True),) * 61, SESSION[0], nested_deep(20))
        for value in ODD + wrong:
            self.assertRaises(NoAccesses, writebacks, RECENT_2, value)
            self.assertRaises(NoAccesses, line_writebacks, RECENTS, value)
        self.assert_same(writebacks(ONE, ((0, True),) * 60), 1)
        self.assert_same(line_writebacks(RECENTS, ((0, True),) * 60), (1, 1, 1, 1))

    def test_which_error_comes_first(self):
        for value in ODD:
            self.assertRaises(NoRule, writebacks, value, value)
            self.assertRaises(NoFamily, line_writebacks, value, value)
        # No accesses, although the first of them would lead to what is not nested.
        accesses = tuple((thing, True) for thing in (0, 1, 2, 0, 3))
        self.assertRaises(NotNested, line_writebacks, QUEUES, accesses)
        self.assertRaises(NoAccesses, line_writebacks, QUEUES, accesses + ((4, 0),))


class GeneralTest(Case):
    def test_by_name(self):
        self.assertIs(is_accesses(thing=SESSION), True)
        self.assertEqual(writebacks(accesses=SESSION, rule=RECENT_2), 3)
        self.assertEqual(line_writebacks(accesses=SESSION, family=RECENTS), (3, 3, 3, 3))

    def test_nothing_is_modified(self):
        for value in ODD + (SESSION, list(SESSION), [[0, True]], RECENTS, list(RECENTS), nested_deep(20)):
            self.assert_unmodified(value, (
                lambda: is_accesses(value), lambda: writebacks(value, SESSION), lambda: writebacks(RECENT_2, value),
                lambda: line_writebacks(value, SESSION), lambda: line_writebacks(RECENTS, value)))

    def test_again_gives_the_same(self):
        for accesses in ACCESSES[:24]:
            first = writebacks(RECENT_2, accesses), line_writebacks(RECENTS, accesses)
            self.assertRaises(NoAccesses, writebacks, RECENT_2, accesses + ((0, 1),))
            self.assert_same((writebacks(RECENT_2, accesses), line_writebacks(RECENTS, accesses)), first)

    def test_renaming_things_changes_nothing(self):
        names = {thing: (thing * 37 + 5) % 100 for thing in range(100)}
        for accesses in ACCESSES[:24]:
            other = tuple((names[thing], is_write) for thing, is_write in accesses)
            for rule in MANY_RULES:
                self.assertEqual(writebacks(rule, other), writebacks(rule, accesses))


if __name__ == "__main__":
    unittest.main()
