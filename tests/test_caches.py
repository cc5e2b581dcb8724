"""Tests of goesout.caches: points 2, 3, 80, 81 and 90."""

import copy
import itertools
import random
import unittest

from goesout.caches import Cache, Noted, NotedPinned, Pinned
from goesout.errors import GoesError, NoRule, NothingDone, NoThing, Pins
from goesout.lines import Line
from goesout.named import chance, family, newest, recent, segments, tree
from goesout.rules import asked, beginning
from goesout.runs import behind, gone, hits, kept, misses
from tests.samples import (
    MIXED, NEWEST_2, ODD, ONE, QUEUE_2, QUEUE_3, RECENT_2, RECENT_3, RULES, WIDE, Case, made_requests, made_rule,
    nested_deep, replaced,
)

MANY_RULES = RULES + (chance(3), tree(4), segments(2, 1), newest(4), made_rule(4, 5, 1))
CLASSES = (Cache, Pinned, Noted, NotedPinned)
WITH_PINS = (Pinned, NotedPinned)
WITH_GONE = (Noted, NotedPinned)
# Values that are no thing, so that no cache holds them or can be asked for them.
NO_THINGS = ODD + ((), (0,), nested_deep(20), 10 ** 40, Cache(ONE), NoThing("words"), Line((ONE,)), Cache, ONE)


def told(cache):
    """Return all that a cache tells of itself."""
    found = [cache.rule, cache.row, cache.label, cache.things, cache.asked, cache.missed, len(cache), repr(cache)]
    found += [cache.pinned] if isinstance(cache, Pinned) else []
    found += [cache.gone] if isinstance(cache, Noted) else []
    return found


def expected_told(kind, rule, requests, pinned=()):
    """Return what a cache must tell of itself behind these requests, by asked alone."""
    state, missed, went = beginning(rule), 0, []
    for thing in requests:
        is_hit, lost, state = asked(rule, state, thing)
        missed += not is_hit
        went += [] if lost is None else [lost]
    things = tuple(sorted(set(state[0]) - {-1}))
    words = "{}({} of {} places, {} asked, {} missed)".format(
        kind.__name__, len(things), rule[0], len(requests), missed)
    found = [rule, state[0], state[1], things, len(requests), missed, len(things), words]
    found += [tuple(sorted(pinned))] if issubclass(kind, Pinned) else []
    found += [tuple(went)] if issubclass(kind, Noted) else []
    return found


def filled(kind, rule, requests, *pinned):
    """Return a cache that was asked for things."""
    cache = kind(rule, *pinned)
    for thing in requests:
        cache.ask(thing)
    return cache


class CacheCase(Case):
    def assert_told(self, cache, requests, pinned=()):
        self.assert_same(told(cache), expected_told(type(cache), cache.rule, requests, pinned))


class CacheTest(CacheCase):
    def test_at_first(self):
        for rule in MANY_RULES:
            cache = Cache(rule)
            self.assert_same(told(cache), [rule, (-1,) * rule[0], 0, (), 0, 0, 0,
                                           "Cache(0 of {} places, 0 asked, 0 missed)".format(rule[0])])

    def test_by_hand(self):
        cache = Cache(recent(3))
        self.assert_same([cache.ask(thing) for thing in (4, 9, 4, 7, 1)], [False, False, True, False, False])
        self.assert_same((cache.row, cache.label, cache.things), ((1, 7, 4), 0, (1, 4, 7)))
        self.assert_same((cache.asked, cache.missed, len(cache)), (5, 4, 3))
        self.assertEqual(repr(cache), "Cache(3 of 3 places, 5 asked, 4 missed)")
        cache.undo()
        self.assertEqual(repr(cache), "Cache(3 of 3 places, 4 asked, 3 missed)")

    def test_repr(self):
        cache = Cache(QUEUE_3)
        for thing, words in ((5, "1 of 3 places, 1 asked, 1 missed"), (5, "1 of 3 places, 2 asked, 1 missed"),
                             (6, "2 of 3 places, 3 asked, 2 missed")):
            cache(thing)
            self.assertEqual(repr(cache), "Cache(" + words + ")")
        cache = Cache(QUEUE_3)
        for thing in (1, 2, 1, 2, 1):
            cache(thing)
        self.assertEqual(repr(cache), "Cache(2 of 3 places, 5 asked, 2 missed)")
        self.assertEqual(repr(filled(Cache, ONE, (3,))), "Cache(1 of 1 places, 1 asked, 1 missed)")
        self.assertEqual(str(filled(NotedPinned, ONE, (3,))), "NotedPinned(1 of 1 places, 1 asked, 1 missed)")

    def test_as_runs(self):
        for kind in CLASSES:
            for rule in MANY_RULES:
                requests = made_requests(rule[0], 6)
                cache = kind(rule)
                self.assert_same(tuple(cache.ask(thing) for thing in requests), hits(rule, requests))
                self.assert_same((cache.row, cache.label), behind(rule, requests))
                self.assert_same((cache.things, cache.missed), (kept(rule, requests), misses(rule, requests)))
                self.assert_told(cache, requests)

    def test_a_call_is_a_request(self):
        for kind in CLASSES:
            for rule in MANY_RULES:
                requests, cache = made_requests(7, 5, 20), kind(rule)
                self.assert_same(tuple(cache(thing) for thing in requests), hits(rule, requests))
                self.assert_told(cache, requests)

    def test_as_many_as_were_asked_for_or_as_there_are_places(self):
        for rule in MANY_RULES:
            for requests in (made_requests(1, 3, 10), made_requests(2, 9, 30), tuple(range(8))):
                for many in range(len(requests)):
                    cache = filled(Cache, rule, requests[:many])
                    self.assertEqual(len(cache), min(len(set(requests[:many])), rule[0]))

    def test_more_requests_than_60(self):
        requests = made_requests(3, 5, 1000)
        for kind in CLASSES:
            cache = filled(kind, RECENT_3, requests)
            self.assert_told(cache, requests)
            for many in range(999, 939, -1):
                self.assert_same(cache.undo(), requests[many])
            self.assert_told(cache, requests[:940])
            self.assert_same(len([cache.undo() for _ in range(940)]), 940)
            self.assert_told(cache, ())

    def test_in(self):
        for kind in CLASSES:
            for rule in MANY_RULES:
                for requests in ((), (0,), (1, 0, 99), made_requests(5, 4, 9)):
                    cache = filled(kind, rule, requests)
                    for thing in range(-3, 103):
                        self.assertIs(thing in cache, thing in kept(rule, requests))
                    for value in NO_THINGS + (cache, filled(kind, rule, requests)):
                        self.assertIs(value in cache, False)
                        self.assertIs(value not in cache, True)
        # A bool is never equal to an integer.
        cache = filled(Cache, QUEUE_3, (0, 1))
        self.assertEqual((0 in cache, False in cache, 1 in cache, True in cache), (True, False, True, False))

    def test_no_rule(self):
        for kind in CLASSES:
            for value in NO_THINGS[:-1] + (5, [2, RECENT_2[1]], family(recent, 2)):
                self.assertRaises(NoRule, kind, value)
            for value in replaced(RECENT_2, True):
                self.assertRaises(NoRule, kind, value)

    def test_no_thing(self):
        for kind in CLASSES:
            for requests in ((), (0, 1), (0, 1, 2)):
                cache = filled(kind, RECENT_2, requests)
                for value in NO_THINGS + (-1, 100):
                    for call in (lambda: cache.ask(value), lambda: cache(value), lambda: cache.ask_all(value),
                                 lambda: cache.ask_all(5, value)):
                        self.assert_unchanged(cache, told, call, NoThing)


class AskAllTest(CacheCase):
    def test_no_things(self):
        for kind in CLASSES:
            for requests in ((), (4, 5, 4)):
                cache = filled(kind, QUEUE_2, requests)
                self.assert_same(cache.ask_all(), ())
                self.assert_told(cache, requests)

    def test_several(self):
        for kind in CLASSES:
            for rule in MANY_RULES:
                requests = made_requests(4, 5, 24)
                cache = kind(rule)
                self.assert_same(cache.ask_all(*requests), hits(rule, requests))
                self.assert_told(cache, requests)
                self.assert_same(cache.ask_all(3, 4), hits(rule, requests + (3, 4))[24:])
                # Each of them is a request for undo.
                self.assert_same([cache.undo() for _ in range(3)], [4, 3, requests[23]])
                self.assert_told(cache, requests[:23])

    def test_one_that_is_refused(self):
        for kind in CLASSES:
            for wrong in (None, True, 100, -1, (0,), "0"):
                for things in ((wrong,), (wrong, 4), (4, wrong), (4, 5, 6, 7, wrong), (4, 5, wrong, 6, wrong)):
                    cache = filled(kind, QUEUE_2, (1, 2))
                    self.assert_unchanged(cache, told, lambda: cache.ask_all(*things), NoThing)
                    self.assert_same(cache.undo(), 2)
                    self.assert_told(cache, (1,))

    def test_many(self):
        cache = Cache(QUEUE_3)
        self.assertEqual(cache.ask_all(*(range(100)), *(range(97, 100))), (False,) * 100 + (True,) * 3)


class UndoTest(CacheCase):
    def test_nothing_done(self):
        for kind in CLASSES:
            cache = kind(RECENT_2)
            self.assert_unchanged(cache, told, cache.undo, NothingDone)
            cache.ask(5)
            self.assert_same(cache.undo(), 5)
            self.assert_unchanged(cache, told, cache.undo, NothingDone)
            self.assert_unchanged(cache, told, cache.undo, NothingDone)
            self.assertIs(cache.ask(5), False)

    def test_back_to_each_one(self):
        for kind in CLASSES:
            for rule in MANY_RULES:
                requests = made_requests(6, 5, 20)
                cache = filled(kind, rule, requests)
                for many in range(19, -1, -1):
                    self.assert_same(cache.undo(), requests[many])
                    self.assert_told(cache, requests[:many])
                self.assert_unchanged(cache, told, cache.undo, NothingDone)

    def test_refused_ones_are_no_requests(self):
        for kind in CLASSES:
            cache = filled(kind, RECENT_2, (5, 6))
            self.assertRaises(NoThing, cache.ask, 100)
            self.assertRaises(NoThing, cache.ask_all, 7, None)
            self.assert_same(cache.undo(), 6)
            self.assert_told(cache, (5,))

    def test_hits_are_requests_too(self):
        cache = filled(Cache, RECENT_2, (5, 6, 5))
        self.assert_same((cache.undo(), cache.row), (5, (6, 5)))

    def test_mixed_with_requests(self):
        for kind in CLASSES:
            for seed in range(20):
                source, requests = random.Random(seed), []
                cache = kind(MANY_RULES[seed % len(MANY_RULES)])
                for _ in range(80):
                    if source.random() < 0.4:
                        if requests:
                            self.assert_same(cache.undo(), requests.pop())
                        else:
                            self.assertRaises(NothingDone, cache.undo)
                    else:
                        requests.append(source.randrange(5))
                        cache.ask(requests[-1])
                    self.assert_told(cache, tuple(requests))


class Wrong(Exception):
    """An exception of the tests."""


class TrialTest(CacheCase):
    def test_what_work_returns(self):
        for kind in CLASSES:
            cache = filled(kind, RECENT_2, (4, 5))
            for value in NO_THINGS + (0, "words", [cache], cache.ask):
                self.assertIs(cache.trial(lambda held: value), value)
            self.assertIs(cache.trial(lambda held: held), cache)
            self.assert_told(cache, (4, 5))

    def test_what_was_done_stays(self):
        for kind in CLASSES:
            cache = filled(kind, QUEUE_2, (4, 5))
            self.assert_same(cache.trial(lambda held: (held.ask(5), held(6), held.undo(), held.ask_all(7, 4))),
                             (True, False, 6, (False, False)))
            self.assert_told(cache, (4, 5, 5, 7, 4))
            self.assert_same([cache.undo() for _ in range(4)], [4, 7, 5, 5])
            # Also what work took back.
            self.assert_same(cache.trial(Cache.undo), 4)
            self.assert_told(cache, ())

    def test_an_exception_takes_all_back_and_goes_on(self):
        errors = (Wrong("words"), NoThing("words"), Pins(3), KeyError("x"), StopIteration(3), KeyboardInterrupt(),
                  SystemExit(2), GeneratorExit(), AssertionError(), RecursionError())
        for kind in CLASSES:
            for requests in ((), (4,), (4, 5, 6, 5)):
                for error in errors:
                    cache = filled(kind, RECENT_3, requests)

                    def work(held):
                        held.ask_all(1, 2, 5, 3)
                        for _ in range(min(held.asked, 6)):
                            held.undo()
                        held.ask(9)
                        raise error
                    self.assertIs(self.assert_unchanged(cache, told, lambda: cache.trial(work), type(error)), error)
                    self.assert_told(cache, requests)
                    cache.ask(7)
                    self.assert_told(cache, requests + (7,))

    def test_refused_requests_and_undo_in_work(self):
        for kind in CLASSES:
            cache = filled(kind, RECENT_2, (4, 5))
            self.assert_unchanged(cache, told, lambda: cache.trial(lambda held: [held(1), held(100)]), NoThing)
            call = lambda: cache.trial(lambda held: [held.undo() for _ in range(3)])
            self.assert_unchanged(cache, told, call, NothingDone)
            self.assert_unchanged(cache, told, lambda: cache.trial(None), TypeError)
            self.assert_unchanged(cache, told, lambda: cache.trial(lambda: cache(3)), TypeError)

    def test_what_was_there_before_is_taken_back(self):
        for kind in CLASSES:
            requests = (4, 5, 6, 4)
            for many in range(5):
                for more in ((), (1,), (4, 2, 3, 1, 5)):
                    cache = filled(kind, QUEUE_3, requests)

                    def work(held):
                        for _ in range(many):
                            held.undo()
                        held.ask_all(*more)
                        if more[:1] == (4,):
                            raise Wrong()
                        return held.asked
                    if more[:1] == (4,):
                        self.assert_unchanged(cache, told, lambda: cache.trial(work), Wrong)
                    else:
                        self.assert_same(cache.trial(work), 4 - many + len(more))
                        self.assert_told(cache, requests[:4 - many] + more)

    def test_within_another_one(self):
        for kind in CLASSES:
            cache = filled(kind, RECENT_3, (4, 5))

            def inner(held):
                held.undo()
                held.ask_all(1, 2, 3)
                raise Wrong()

            def outer(held):
                held.ask(6)
                try:
                    held.trial(inner)
                except Wrong:
                    self.assert_told(held, (4, 5, 6))
                    held.ask(7)
                held.trial(lambda again: again.ask(8))
                return held.asked
            self.assert_same(cache.trial(outer), 5)
            self.assert_told(cache, (4, 5, 6, 7, 8))
            # What an inner one did goes with the outer one.
            done = lambda held: held.trial(lambda again: [again.undo(), again.ask(9)])
            self.assert_unchanged(cache, told, lambda: cache.trial(lambda held: [done(held), held.ask(-1)]), NoThing)
            self.assert_unchanged(cache, told, lambda: cache.trial(lambda held: held.trial(inner)), Wrong)

    def test_deep_in_one_another(self):
        for kind in CLASSES:
            for broken in (None, 0, 5, 19):
                cache = filled(kind, RECENT_2, (4, 5))

                def work(held):
                    many = held.asked - 2
                    held.ask(many)
                    if many < 19:
                        held.trial(work)
                    if many == broken:
                        raise Wrong()
                if broken is None:
                    cache.trial(work)
                    self.assert_told(cache, (4, 5) + tuple(range(20)))
                else:
                    self.assert_unchanged(cache, told, lambda: cache.trial(work), Wrong)

    def test_other_caches_are_as_work_left_them(self):
        cache, other = filled(Cache, RECENT_2, (4, 5)), Cache(RECENT_2)
        self.assert_unchanged(cache, told, lambda: cache.trial(lambda held: [other.ask(1), held.ask(100)]), NoThing)
        self.assert_told(other, (1,))


class PinnedTest(CacheCase):
    def test_pinned(self):
        for kind in WITH_PINS:
            for things in ((), (3,), (5, 3), (0, 99, 50), tuple(range(99, -1, -1))):
                cache = kind(QUEUE_2, *things)
                self.assert_same(cache.pinned, tuple(sorted(things)))
                self.assert_told(cache, (), things)

    def test_no_things(self):
        for kind in WITH_PINS:
            for value in NO_THINGS + (-1, 100):
                for things in ((value,), (3, value), (value, 3), (value, value)):
                    self.assertRaises(NoThing, kind, QUEUE_2, *things)
                self.assertRaises(NoRule, kind, value if value != ONE else None, value)
            for things in ((3, 3), (3, 4, 3), (4, 3, 3), (0, False), (1, True), (True, 1), tuple(range(100)) + (0,)):
                self.assertRaises(NoThing, kind, QUEUE_2, *things)
            self.assertRaises(NoRule, kind, None, 3, 3)

    def test_refused_requests(self):
        for kind in WITH_PINS:
            cache = filled(kind, QUEUE_2, (4, 5), 4)
            for call in (lambda: cache.ask(6), lambda: cache(6), lambda: cache.ask_all(6),
                         lambda: cache.ask_all(5, 4, 7)):
                self.assert_same(self.assert_unchanged(cache, told, call, Pins).thing, 4)
            # Hits and things that are not pinned are asked for as ever.
            self.assert_same((cache(4), cache(5)), (True, True))
            self.assert_told(cache, (4, 5, 4, 5), (4,))

    def test_the_thing_that_would_go(self):
        for kind in WITH_PINS:
            for rule in MANY_RULES:
                source = random.Random(rule[0])
                for pinned in ((), (0,), (1, 2), (3, 50), tuple(range(6))):
                    cache, requests = kind(rule, *pinned), ()
                    for _ in range(25):
                        thing = source.randrange(6)
                        lost = asked(rule, (cache.row, cache.label), thing)[1]
                        if lost in pinned:
                            call = source.choice((lambda: cache.ask(thing), lambda: cache(thing),
                                                  lambda: cache.ask_all(thing)))
                            self.assert_same(self.assert_unchanged(cache, told, call, Pins).thing, lost)
                        else:
                            requests += (thing,)
                            self.assert_same(cache.ask(thing), hits(rule, requests)[-1])
                        self.assert_told(cache, requests, pinned)

    def test_things_that_are_not_in_the_cache(self):
        for kind in WITH_PINS:
            cache = kind(QUEUE_2, 7, 8)
            self.assert_same(cache.ask_all(1, 2, 3, 4), (False,) * 4)
            self.assert_same(cache.ask_all(7, 8), (False, False))
            self.assert_same(self.assert_unchanged(cache, told, lambda: cache(1), Pins).thing, 7)

    def test_the_thing_that_is_asked_for_may_be_pinned(self):
        for kind in WITH_PINS:
            cache = filled(kind, ONE, (3,), 4)
            self.assertIs(cache(4), False)
            self.assertIs(cache(4), True)
            self.assert_same(self.assert_unchanged(cache, told, lambda: cache(3), Pins).thing, 4)

    def test_no_pinned_things(self):
        for kind in WITH_PINS:
            for rule in MANY_RULES:
                requests = made_requests(2, 6, 30)
                self.assert_told(filled(kind, rule, requests), requests)

    def test_no_thing_comes_ahead_of_pins(self):
        for kind in WITH_PINS:
            cache = filled(kind, ONE, (3,), 3)
            for value in NO_THINGS:
                self.assert_unchanged(cache, told, lambda: cache.ask(value), NoThing)
                self.assert_unchanged(cache, told, lambda: cache.ask_all(value, 4), NoThing)
                # The first one that is refused, whatever stands behind it.
                self.assert_same(self.assert_unchanged(cache, told, lambda: cache.ask_all(3, 4, value), Pins).thing, 3)

    def test_ask_all_of_one_that_is_refused_at_the_end(self):
        for kind in WITH_PINS:
            cache = filled(kind, QUEUE_2, (1, 2), 5)
            call = lambda: cache.ask_all(3, 5, 4, 6)
            self.assert_same(self.assert_unchanged(cache, told, call, Pins).thing, 5)
            self.assert_same(cache.ask_all(3, 5, 4), (False,) * 3)

    def test_in_a_trial(self):
        for kind in WITH_PINS:
            cache = filled(kind, QUEUE_2, (1, 2), 2)
            call = lambda: cache.trial(lambda held: [held.ask(3), held.ask(4)])
            self.assert_same(self.assert_unchanged(cache, told, call, Pins).thing, 2)
            cache.ask(3)
            self.assert_same(cache.undo(), 3)

    def test_all_is_pinned(self):
        for kind in WITH_PINS:
            for rule in MANY_RULES:
                cache = filled(kind, rule, range(rule[0]), *range(rule[0]))
                self.assertIn(self.assert_unchanged(cache, told, lambda: cache(50), Pins).thing, range(rule[0]))


class NotedTest(CacheCase):
    def test_gone(self):
        for kind in WITH_GONE:
            for rule in MANY_RULES:
                requests = made_requests(rule[0], 6)
                cache = kind(rule)
                self.assert_same(cache.gone, ())
                for many in range(60):
                    cache.ask(requests[many])
                    expected = [lost for lost in gone(rule, requests[:many + 1]) if lost is not None]
                    self.assert_same(cache.gone, tuple(expected))
                for many in range(59, -1, -1):
                    cache.undo()
                    expected = [lost for lost in gone(rule, requests[:many]) if lost is not None]
                    self.assert_same(cache.gone, tuple(expected))

    def test_by_hand(self):
        for kind in WITH_GONE:
            cache = kind(ONE)
            cache.ask_all(0, 1, 1, 0, 2)
            self.assert_same(cache.gone, (0, 1, 0))
            self.assertRaises(Wrong, cache.trial, lambda held: [held.ask(5), held.undo(), held.undo(), fail()])
            self.assert_same(cache.gone, (0, 1, 0))
            cache.undo()
            self.assert_same(cache.gone, (0, 1))

    def test_derived(self):
        self.assertTrue(issubclass(Pinned, Cache) and issubclass(Noted, Cache))
        self.assertTrue(issubclass(NotedPinned, Noted) and issubclass(NotedPinned, Pinned))
        self.assertFalse(issubclass(Noted, Pinned) or issubclass(Pinned, Noted))
        for kind in (Cache, Noted):
            self.assertFalse(hasattr(kind(ONE), "pinned"))
            self.assertRaises(TypeError, kind, ONE, 3)
        for kind in (Cache, Pinned):
            self.assertFalse(hasattr(kind(ONE), "gone"))


def fail():
    raise Wrong()


class EqualTest(CacheCase):
    def same(self, one, other, expected):
        self.assertIs(one == other, expected)
        self.assertIs(other == one, expected)
        self.assertIs(one != other, not expected)
        self.assertIs(other != one, not expected)

    def test_different_histories(self):
        for kind in CLASSES:
            one, other = filled(kind, RECENT_2, (1, 2)), filled(kind, RECENT_2, (5, 4, 2, 1, 2))
            self.assertNotEqual((one.asked, one.missed), (other.asked, other.missed))
            self.same(one, other, True)
            other.ask(2)
            self.same(one, other, True)
            other.ask(1)
            self.same(one, other, False)
            self.same(one, one, True)
            self.same(kind(RECENT_2), filled(kind, RECENT_2, (3,)), False)

    def test_rules_rows_and_labels(self):
        for kind in CLASSES:
            # Two rules that do the same are not equal.
            self.same(kind(RECENT_2), kind((2, RECENT_2[1] * 2)), False)
            self.same(kind(RECENT_2), kind(QUEUE_2), False)
            self.same(kind(RECENT_2), kind(recent(2)), True)
            self.same(filled(kind, MIXED, (5,)), filled(kind, MIXED, (5,)), True)
            marked = [filled(kind, chance(2), requests) for requests in ((1, 2), (1, 2, 1), (1, 2, 2), (1, 2, 1, 1))]
            for one, other in itertools.product(range(4), repeat=2):
                states = [(marked[at].row, marked[at].label) for at in (one, other)]
                self.same(marked[one], marked[other], states[0] == states[1])
            # The same things in other places.
            self.same(filled(kind, RECENT_2, (1, 2)), filled(kind, RECENT_2, (2, 1)), False)

    def test_classes(self):
        for requests in ((), (1, 2, 3)):
            caches = [filled(kind, NEWEST_2, requests) for kind in CLASSES]
            for one, other in itertools.product(range(4), repeat=2):
                self.same(caches[one], caches[other], one == other)
                self.same(caches[one], copy.deepcopy(caches[other]), one == other)

    def test_pinned_things(self):
        for kind in WITH_PINS:
            self.same(kind(ONE, 3, 4), kind(ONE, 4, 3), True)
            self.same(kind(ONE, 3), kind(ONE, 4), False)
            self.same(kind(ONE, 3), kind(ONE), False)
            self.same(kind(ONE, 3, 4), kind(ONE, 3), False)
            self.same(kind(ONE, 1), kind(ONE, 0, 1), False)

    def test_what_went_does_not_count(self):
        for kind in WITH_GONE:
            one, other = filled(kind, ONE, (1, 2, 3)), filled(kind, ONE, (3,))
            self.assertNotEqual(one.gone, other.gone)
            self.same(one, other, True)

    def test_any_other_value(self):
        for kind in CLASSES:
            cache = filled(kind, RECENT_2, (1, 2))
            for value in NO_THINGS + (RECENT_2, (RECENT_2, (2, 1), 0), (2, 1), repr(cache), kind, (cache,), [cache],
                                      Line(family(recent, 2)), Line((ONE,)), object()):
                self.same(cache, value, False)

    def test_another_class_of_the_same_name(self):
        made = filled(Cache, RECENT_2, (1, 2))
        told = {"rule": made.rule, "row": made.row, "label": made.label, "_pinned": ()}
        self.same(made, type("Cache", (), told)(), False)

    def test_as_a_part(self):
        cache = filled(Cache, RECENT_2, (1, 2))
        self.assertIn(filled(Cache, RECENT_2, (1, 2)), [None, 5, cache])
        self.assertNotIn(filled(Noted, RECENT_2, (1, 2)), [None, 5, cache])
        self.assertEqual((cache, 1), (filled(Cache, RECENT_2, (3, 1, 2)), 1))


class GeneralTest(CacheCase):
    def test_by_name(self):
        for kind in CLASSES:
            cache = kind(rule=QUEUE_2)
            self.assertIs(cache.ask(thing=3), False)
            self.assertIs(cache(thing=3), True)
            self.assert_same(cache.trial(work=lambda held: held.undo()), 3)
            self.assert_told(cache, (3,))

    def test_nothing_is_set_from_outside(self):
        for kind in CLASSES:
            cache = filled(kind, QUEUE_2, (1, 2))
            for name in ("rule", "row", "label", "things", "asked", "missed", "pinned", "gone"):
                if hasattr(cache, name):
                    with self.assertRaises(AttributeError):
                        setattr(cache, name, ())
            self.assert_told(cache, (1, 2))

    def test_nothing_is_modified(self):
        for value in ODD + (list(RECENT_2), RECENT_2, nested_deep(20)):
            for kind in CLASSES:
                cache = kind(WIDE)
                self.assert_unmodified(value, (
                    lambda: kind(value), lambda: cache.ask(value), lambda: cache(value), lambda: value in cache,
                    lambda: cache.ask_all(3, value), lambda: cache == value, lambda: cache.trial(lambda held: value)))

    def test_reading_changes_nothing(self):
        for kind in CLASSES:
            cache = filled(kind, QUEUE_3, (1, 2, 3, 4, 1))
            for _ in range(3):
                self.assert_told(cache, (1, 2, 3, 4, 1))
                self.assertTrue(cache == copy.deepcopy(cache) and 1 in cache and None not in cache)

    def test_no_two_caches_share_anything(self):
        for kind in CLASSES:
            one, other = kind(QUEUE_2), kind(QUEUE_2)
            one.ask_all(1, 2, 3)
            self.assert_told(other, ())
            copied = copy.deepcopy(one)
            copied.ask(4)
            self.assert_told(one, (1, 2, 3))

    def test_renaming_things_changes_only_names(self):
        for rule in MANY_RULES:
            requests = made_requests(8, 6)
            names = {thing: (thing * 37 + 5) % 100 for thing in range(100)}
            one, other = filled(Noted, rule, requests), filled(Noted, rule, [names[thing] for thing in requests])
            self.assertEqual([names[thing] for thing in one.gone], list(other.gone))
            self.assertEqual([names.get(thing, -1) for thing in one.row], list(other.row))
            self.assertEqual((one.label, one.asked, one.missed), (other.label, other.asked, other.missed))

    def test_all_errors_are_of_the_package(self):
        cache = Pinned(ONE, 3)
        for call in (lambda: cache.undo(), lambda: cache.ask(None), lambda: Pinned(ONE, 3, 3), lambda: Cache(None),
                     lambda: cache.ask_all(3, 4)):
            self.assertRaises(GoesError, call)


if __name__ == "__main__":
    unittest.main()
