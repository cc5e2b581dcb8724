"""Tests of goesout.lines: points 2, 3, 82 and 90."""

import copy
import itertools
import random
import unittest

from goesout.caches import Cache
from goesout.errors import NoFamily, NothingDone, NoThing
from goesout.lines import Line
from goesout.lists import curve, line
from goesout.named import chance, family, newest, queue, recent, segments
from goesout.runs import behind, hits, kept, misses
from tests.samples import (
    MIXED, ODD, ONE, QUEUE_2, RECENT_2, Case, by_turns, made_requests, made_rule, nested_deep, replaced,
)

RECENTS, NEWESTS, QUEUES = family(recent, 4), family(newest, 4), family(queue, 4)
FAMILIES = (RECENTS, NEWESTS, QUEUES, RECENTS[:1], QUEUES[:2], NEWESTS[:3], family(chance, 4), (ONE, RECENT_2, MIXED),
            tuple(by_turns(places, (True, False)) for places in range(1, 5)),
            (ONE, segments(1, 1), segments(2, 1), segments(2, 2)),
            (made_rule(1, 2, 1), made_rule(2, 3, 2), made_rule(3, 4, 3), made_rule(4, 5, 4)))
NO_THINGS = ODD + ((), (0,), nested_deep(20), 10 ** 40, Cache(ONE), NoThing("words"), Line((ONE,)), Line, RECENTS)
APART = (0, 1, 2, 0, 3)


def told(made):
    """Return all that a line tells of itself."""
    return [made.family, made.caches, made.counts, made.is_nested, len(made), repr(made)]


def expected_told(rules, requests):
    """Return what a line must tell of itself behind these requests, by runs alone."""
    things = tuple(kept(rule, requests) for rule in rules)
    is_nested = all(set(smaller) <= set(greater) for smaller, greater in zip(things, things[1:]))
    words = "Line({} caches, {} asked)".format(len(rules), len(requests))
    return [rules, things, tuple(misses(rule, requests) for rule in rules), is_nested, len(rules), words]


def filled(rules, requests):
    """Return a line that was asked for things."""
    made = Line(rules)
    for thing in requests:
        made.ask(thing)
    return made


class LineCase(Case):
    def assert_told(self, made, requests):
        self.assert_same(told(made), expected_told(made.family, requests))


class LineTest(LineCase):
    def test_at_first(self):
        for rules in FAMILIES:
            self.assert_told(Line(rules), ())
        self.assert_same(told(Line((ONE,))), [(ONE,), ((),), (0,), True, 1, "Line(1 caches, 0 asked)"])

    def test_by_hand(self):
        made = Line(family(recent, 3))
        self.assert_same([made(thing) for thing in (5, 6, 5, 7, 6)],
                         [(False, False, False), (False, False, False), (False, True, True), (False, False, False),
                          (False, False, True)])
        self.assert_same((made.caches, made.counts), (((6,), (6, 7), (5, 6, 7)), (5, 4, 3)))
        self.assertEqual(repr(made), "Line(3 caches, 5 asked)")
        self.assertEqual(str(filled((ONE,), (3,))), "Line(1 caches, 1 asked)")

    def test_each_cache(self):
        for rules in FAMILIES:
            for seed, things in ((1, 3), (2, 5), (3, 9)):
                requests = made_requests(seed, things)
                made = Line(rules)
                for many, thing in enumerate(requests, 1):
                    call = made.ask if many % 2 else made
                    expected = tuple(hits(rule, requests[:many])[-1] for rule in rules)
                    self.assert_same(call(thing), expected)
                    self.assert_told(made, requests[:many])

    def test_as_caches(self):
        for rules in FAMILIES:
            requests = made_requests(4, 6, 100)
            made, caches = filled(rules, requests), [Cache(rule) for rule in rules]
            for cache in caches:
                cache.ask_all(*requests)
            self.assert_same(made.caches, tuple(cache.things for cache in caches))
            self.assert_same(made.counts, tuple(cache.missed for cache in caches))
            self.assertEqual(repr(made), "Line({} caches, 100 asked)".format(len(rules)))

    def test_is_nested(self):
        made = Line(QUEUES)
        self.assert_same([made.ask(thing) and made.is_nested for thing in APART + (4, 5, 6)],
                         [True, True, True, True, False, True, True, True])
        self.assert_same([made.undo() and made.is_nested for _ in range(4)], [True, True, False, True])
        for rules in (RECENTS, NEWESTS):
            made = Line(rules)
            for thing in made_requests(6, 6, 200):
                made.ask(thing)
                self.assertIs(made.is_nested, True)
        made = Line((made_rule(1, 3, 5),))
        for thing in made_requests(6, 3, 20):
            made.ask(thing)
            self.assertIs(made.is_nested, True)

    def test_as_lists(self):
        for rules in (RECENTS, NEWESTS, FAMILIES[8]):
            requests = made_requests(7, 6)
            made = filled(rules, requests)
            row = line(rules, requests)
            self.assert_same(made.caches, tuple(tuple(sorted(row[:places])) for places in range(1, 5)))
            self.assert_same(made.counts, curve(rules, requests))

    def test_more_requests_than_60(self):
        requests = made_requests(8, 6, 300)
        made = filled(RECENTS, requests)
        self.assertEqual(repr(made), "Line(4 caches, 300 asked)")
        self.assert_same([made.undo() for _ in range(240)], list(requests[:59:-1]))
        self.assert_told(made, requests[:60])

    def test_no_family(self):
        for value in NO_THINGS[:-1] + ((), [ONE], (QUEUE_2,), QUEUES[::-1], QUEUES[1:], ONE, list(RECENTS)):
            self.assertRaises(NoFamily, Line, value)
        for value in replaced((ONE, QUEUE_2), True):
            self.assertRaises(NoFamily, Line, value)

    def test_no_thing(self):
        for rules in FAMILIES[:5]:
            made = filled(rules, APART)
            for value in NO_THINGS + (-1, 100):
                self.assert_unchanged(made, told, lambda: made.ask(value), NoThing)
                self.assert_unchanged(made, told, lambda: made(value), NoThing)


class UndoTest(LineCase):
    def test_nothing_done(self):
        for rules in FAMILIES:
            made = Line(rules)
            self.assert_unchanged(made, told, made.undo, NothingDone)
            made.ask(5)
            self.assertRaises(NoThing, made.ask, None)
            self.assert_same(made.undo(), 5)
            self.assert_unchanged(made, told, made.undo, NothingDone)
            self.assert_told(made, ())

    def test_mixed_with_requests(self):
        for seed, rules in enumerate(FAMILIES):
            source, requests, made = random.Random(seed), [], Line(rules)
            for _ in range(150):
                if source.random() < 0.4:
                    if requests:
                        self.assert_same(made.undo(), requests.pop())
                    else:
                        self.assertRaises(NothingDone, made.undo)
                elif len(requests) < 60:
                    requests.append(source.randrange(6))
                    made.ask(requests[-1])
                self.assert_told(made, tuple(requests))


class Wrong(Exception):
    """An exception of the tests."""


class TrialTest(LineCase):
    def test_what_work_returns(self):
        made = filled(QUEUES, APART)
        for value in NO_THINGS + (made, made.ask):
            self.assertIs(made.trial(lambda held: value), value)
        self.assertIs(made.trial(lambda held: held), made)
        self.assert_same(made.trial(lambda held: (held(7), held.undo(), held.undo(), held.ask(0))),
                         ((False,) * 4, 7, 3, (True, True, True, True)))
        self.assert_told(made, APART[:4] + (0,))

    def test_an_exception_takes_all_back_and_goes_on(self):
        for error in (Wrong(), NoThing("words"), KeyError("x"), KeyboardInterrupt(), GeneratorExit()):
            for rules in FAMILIES:
                for many in range(6):
                    made = filled(rules, APART)

                    def work(held):
                        for _ in range(many):
                            held.undo()
                        held.ask(7)
                        raise error
                    self.assertIs(self.assert_unchanged(made, told, lambda: made.trial(work), type(error)), error)
                    self.assert_told(made, APART)
        self.assert_unchanged(made, told, lambda: made.trial(lambda held: [held(1), held(100)]), NoThing)
        self.assert_unchanged(made, told, lambda: made.trial(lambda held: [held.undo() for _ in range(9)]), NothingDone)

    def test_within_another_one(self):
        for rules in FAMILIES:
            made = filled(rules, (4, 5))

            def inner(held):
                held.undo()
                held.ask(1)
                raise Wrong()

            def outer(held):
                held.ask(6)
                self.assertRaises(Wrong, held.trial, inner)
                self.assert_told(held, (4, 5, 6))
                held.trial(lambda again: again.ask(7))
            made.trial(outer)
            self.assert_told(made, (4, 5, 6, 7))
            self.assert_unchanged(made, told, lambda: made.trial(lambda held: held.trial(inner)), Wrong)
            done = lambda held: held.trial(lambda again: [again.undo(), again.ask(9)])
            self.assert_unchanged(made, told, lambda: made.trial(lambda held: [done(held), held.ask(-1)]), NoThing)


class EqualTest(LineCase):
    def same(self, one, other, expected):
        self.assertIs(one == other, expected)
        self.assertIs(other == one, expected)
        self.assertIs(one != other, not expected)

    def test_families_and_states(self):
        for rules in FAMILIES:
            self.same(Line(rules), Line(rules), True)
            self.same(filled(rules, APART), filled(rules, APART), True)
            self.same(filled(rules, (1,)), filled(rules, (2,)), False)
            for other in FAMILIES:
                self.same(filled(rules, (1, 2)), filled(other, (1, 2)), rules == other)
        self.same(Line((RECENTS[0], RECENTS[1])), Line((RECENTS[0], (2, RECENTS[1][1] * 2))), False)

    def test_different_histories(self):
        one, other = filled(RECENTS, (1, 2, 3, 4)), filled(RECENTS, (4, 4, 7, 1, 2, 3, 4))
        self.assertNotEqual(one.counts, other.counts)
        self.same(one, other, True)
        other.ask(3)
        self.same(one, other, False)

    def test_all_states_count(self):
        for many in range(4):
            for first, second in itertools.product(itertools.permutations(range(4), many), repeat=2):
                one, other = filled(QUEUES[:3], first), filled(QUEUES[:3], second)
                states = [[behind(rule, requests) for rule in QUEUES[:3]] for requests in (first, second)]
                self.same(one, other, states[0] == states[1])
        # Only the label of the greatest cache tells these two apart.
        rules = (ONE, RECENT_2, (3, MIXED[1]))
        found = {}
        for requests in itertools.product(range(3), repeat=5):
            made = filled(rules, requests)
            key = [behind(rule, requests) for rule in rules]
            found.setdefault((key[0], key[1], key[2][0]), {})[key[2][1]] = made
        several = [list(made.values()) for made in found.values() if len(made) > 1]
        self.assertGreater(len(several), 0)
        for made in several:
            self.same(made[0], made[1], False)

    def test_any_other_value(self):
        made = filled(RECENTS, (1, 2))
        for value in NO_THINGS + (repr(made), (made,), [made], made.caches, Cache(ONE), object(), Line((ONE,))):
            self.same(made, value, False)
        self.same(Line((ONE,)), Cache(ONE), False)


class GeneralTest(LineCase):
    def test_by_name(self):
        made = Line(family=QUEUES)
        self.assert_same(made.ask(thing=3), (False,) * 4)
        self.assert_same(made(thing=3), (True,) * 4)
        self.assert_same(made.trial(work=lambda held: held.undo()), 3)
        self.assert_told(made, (3,))

    def test_nothing_is_set_from_outside(self):
        made = filled(QUEUES, APART)
        for name in ("family", "caches", "counts", "is_nested"):
            with self.assertRaises(AttributeError):
                setattr(made, name, ())
        self.assert_told(made, APART)

    def test_nothing_is_modified(self):
        for value in ODD + (list(RECENTS), RECENTS, nested_deep(20)):
            made = Line(QUEUES)
            self.assert_unmodified(value, (
                lambda: Line(value), lambda: made.ask(value), lambda: made(value), lambda: made == value,
                lambda: made.trial(lambda held: value)))

    def test_no_two_lines_share_anything(self):
        one, other = Line(QUEUES), Line(QUEUES)
        one.ask(1)
        self.assert_told(other, ())
        copied = copy.deepcopy(one)
        copied.ask(4)
        self.assert_told(one, (1,))


if __name__ == "__main__":
    unittest.main()
