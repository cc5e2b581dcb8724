"""Tests of goesout.named: points 2, 3, 20, 21, 22 and 90."""

import copy
import itertools
import random
import unittest

from goesout.errors import NoPlaces, NoRule
from goesout.named import chance, family, is_family, newest, queue, recent, segments, tree
from goesout.rules import asked, beginning, is_rule
from goesout.runs import gone, hits, kept, misses
from tests.samples import (
    FRONT_2, FRONT_3, FRONT_4, MIXED, NEWEST_2, ODD, ONE, QUEUE_2, QUEUE_3, RECENT_2, RECENT_3, STAY_2, STAY_3,
    STAY_4, WRONG_PARTS, Case, nested_deep, plain, replaced, reshaped,
)

OF_PLACES = (recent, queue, newest, chance)
NO_PLACES = (0, -1, 5, 100, True, False, None, "2", "", (2,), [2], {2: 2}, (), 10 ** 12, recent)
SEGMENTS = ((1, 1), (1, 2), (2, 1), (1, 3), (2, 2), (3, 1))


def requests_like(seed, things):
    """Return 60 requests of so many things, always the same for a seed."""
    source = random.Random(seed)
    return tuple(source.randrange(things) for _ in range(60))


ALL_REQUESTS = [requests_like(seed, things) for seed in range(40) for things in (2, 3, 4, 5, 6, 8, 20)]


def listed(places, requests, at_hit, at_miss):
    """Return the hits of a cache that is a list of things, its next to go at the end."""
    row, found = [], []
    for thing in requests:
        found.append(thing in row)
        row = (at_hit if thing in row else at_miss)(row, thing, places)
    return tuple(found)


def forward(row, thing, places):
    return [thing] + [other for other in row if other != thing]


def stay(row, thing, places):
    return row


def first_in(row, thing, places):
    return [thing] + row[:places - 1]


def for_the_last(row, thing, places):
    return [thing] + (row[1:] if len(row) == places else row)


def by_clock(places, requests):
    """Return the hits of a ring of places with a hand and a mark for each."""
    ring, marks, hand, found = [None] * places, [False] * places, 0, []
    for thing in requests:
        found.append(thing in ring)
        if thing in ring:
            marks[ring.index(thing)] = True
            continue
        while ring[hand] is not None and marks[hand]:
            marks[hand] = False
            hand = (hand + 1) % places
        ring[hand] = thing
        hand = (hand + 1) % places
    return tuple(found)


def by_tree(places, requests):
    """Return the hits of places at the leaves of a tree whose knots point away from the last one used."""
    leaves, points, found = [None] * places, {}, []
    for thing in requests:
        found.append(thing in leaves)
        if thing in leaves:
            at = leaves.index(thing)
        else:
            low, high = 0, places
            while high - low > 1:
                middle = (low + high) // 2
                halves = [(middle, high), (low, middle)]
                if not points.get((low, high)):
                    halves = halves[::-1]
                # A half with a blank place comes first.
                low, high = max(halves, key=lambda half: None in leaves[half[0]:half[1]])
            at = low
            leaves[at] = thing
        low, high = 0, places
        while high - low > 1:
            middle = (low + high) // 2
            points[(low, high)] = at < middle
            low, high = (low, middle) if at < middle else (middle, high)
    return tuple(found)


def by_segments(trial, tried, requests):
    """Return the hits of two lists: what is hit comes to the first, what falls off it to the second."""
    first, second, found = [], [], []
    for thing in requests:
        found.append(thing in first + second)
        if thing in first + second:
            row = [thing] + [other for other in first + second if other != thing]
            # The things that were not hit yet fill both lists at first.
            first, second = row[:tried], row[tried:]
        elif len(first) < tried:
            first = first + [thing]
        else:
            second = ([thing] + second)[:trial]
    return tuple(found)


class OrdersTest(Case):
    def test_recent(self):
        self.assert_same(recent(1), ONE)
        self.assert_same(recent(2), RECENT_2)
        self.assert_same(recent(3), RECENT_3)
        self.assert_same(recent(4), plain(4, 3, FRONT_4))

    def test_queue(self):
        self.assert_same(queue(1), ONE)
        self.assert_same(queue(2), QUEUE_2)
        self.assert_same(queue(3), QUEUE_3)
        self.assert_same(queue(4), plain(4, 3, FRONT_4, STAY_4))

    def test_newest(self):
        self.assert_same(newest(1), ONE)
        self.assert_same(newest(2), NEWEST_2)
        self.assert_same(newest(3), plain(3, 0, FRONT_3))
        self.assert_same(newest(4), plain(4, 0, FRONT_4))

    def test_segments(self):
        self.assert_same(segments(1, 1), plain(2, 1, STAY_2, FRONT_2))
        self.assert_same(segments(2, 1), plain(3, 2, ((0, 1, 2), (0, 1, 2), (0, 2, 1)), FRONT_3))
        self.assert_same(segments(1, 2), plain(3, 2, STAY_3, FRONT_3))
        late = ((0, 1, 2, 3), (0, 1, 2, 3), (0, 2, 1, 3), (0, 3, 1, 2))
        self.assert_same(segments(3, 1), plain(4, 3, late, FRONT_4))
        late = ((0, 1, 2, 3), (0, 1, 2, 3), (0, 1, 2, 3), (0, 1, 3, 2))
        self.assert_same(segments(2, 2), plain(4, 3, late, FRONT_4))
        self.assert_same(segments(1, 3), plain(4, 3, STAY_4, FRONT_4))

    def test_tree(self):
        self.assert_same(tree(1), ONE)
        self.assert_same(tree(2), plain(2, 0, ((1, 0), (0, 1))))
        self.assert_same(tree(4), plain(4, 0, ((2, 3, 1, 0), (2, 3, 0, 1), (0, 1, 3, 2), (0, 1, 2, 3))))

    def test_chance(self):
        move = ((0,), 0)
        self.assert_same(chance(1), (1, ((((((0,), 1),), 0, (move,))), ((((0,), 1),), 0, (move,)))))
        stays, turns = (0, 1), ((1, 0), (0, 1))
        self.assert_same(chance(2), (2, (
            (((stays, 1), (stays, 2)), 0, ((turns[0], 0), (turns[1], 0))),
            (((stays, 1), (stays, 3)), 1, ((turns[0], 0), (turns[1], 0))),
            (((stays, 3), (stays, 2)), 0, ((turns[0], 1), (turns[1], 0))),
            (((stays, 3), (stays, 3)), 0, ((turns[0], 0), (turns[1], 0))),
        )))

    def test_chance_label_by_label(self):
        for places in range(1, 5):
            labels = chance(places)[1]
            self.assertEqual(len(labels), 2 ** places)
            for number, (at_hit, out, comes) in enumerate(labels):
                marks = [bool(number & 2 ** place) for place in range(places)]
                self.assert_same(out, 0 if all(marks) else marks.index(False))
                for place in range(places):
                    then = [mark or at == place for at, mark in enumerate(marks)]
                    label = sum(2 ** at for at, mark in enumerate(then) if mark)
                    self.assert_same(at_hit[place], (tuple(range(places)), label))
                    order = tuple(range(place + 1, places)) + tuple(range(place + 1))
                    then = [False] * places if all(marks) else marks[place + 1:] + [False] * (place + 1)
                    label = sum(2 ** at for at, mark in enumerate(then) if mark)
                    self.assert_same(comes[place], (order, label))

    def test_numbers_of_places_and_labels(self):
        for places in range(1, 5):
            for make in OF_PLACES:
                self.assertEqual(make(places)[0], places)
                self.assertIs(is_rule(make(places)), True)
                self.assertEqual(len(make(places)[1]), 2 ** places if make is chance else 1)
        for trial, tried in SEGMENTS:
            self.assertEqual(segments(trial, tried)[0], trial + tried)
            self.assertIs(is_rule(segments(trial, tried)), True)


class BehaviourTest(Case):
    def check_hits(self, rule, by, *told):
        for requests in ALL_REQUESTS:
            self.assertEqual(hits(rule, requests), by(*told, requests))

    def test_lists(self):
        for places in range(1, 5):
            for requests in ALL_REQUESTS:
                for make, at_hit, at_miss in ((recent, forward, first_in), (queue, stay, first_in),
                                              (newest, forward, for_the_last)):
                    self.assertEqual(hits(make(places), requests),
                                     listed(places, requests, at_hit, at_miss))

    def test_chance(self):
        for places in range(1, 5):
            self.check_hits(chance(places), by_clock, places)

    def test_tree(self):
        for places in (1, 2, 4):
            self.check_hits(tree(places), by_tree, places)

    def test_segments(self):
        for trial, tried in SEGMENTS:
            self.check_hits(segments(trial, tried), by_segments, trial, tried)

    def test_chance_fills_from_place_0(self):
        for places in range(1, 5):
            rule = chance(places)
            for many in range(places):
                for asked_for in itertools.product(range(many + 1), repeat=3):
                    state = beginning(rule)
                    for thing in (*range(many), *asked_for):
                        row = asked(rule, state, thing)[2][0]
                        if -1 in state[0]:
                            self.assertEqual(state[0].index(-1), 0)
                        state = (row, asked(rule, state, thing)[2][1])

    def test_the_session_of_the_document(self):
        self.assert_same(hits(recent(2), (0, 1, 0, 2, 0, 1)), (False, False, True, False, True, False))
        self.assert_same((kept(recent(2), (0, 1, 0, 2, 0, 1)), misses(queue(2), (0, 1, 0, 2, 0, 1))),
                         ((0, 1), 5))

    def test_what_goes(self):
        requests = (0, 1, 0, 2)
        self.assertEqual(gone(recent(2), requests)[3], 1)
        self.assertEqual(gone(queue(2), requests)[3], 0)
        self.assertEqual(gone(newest(2), requests)[3], 0)
        self.assertEqual(gone(newest(3), (0, 1, 2, 1, 3))[4], 1)
        self.assertEqual(gone(chance(3), (0, 1, 2, 0, 3, 4))[4:], (1, 2))

    def test_as_many_things_as_were_asked_for(self):
        rules = [make(places) for make in OF_PLACES for places in range(1, 5)]
        rules += [segments(trial, tried) for trial, tried in SEGMENTS] + [tree(2), tree(4), MIXED]
        for rule in rules:
            for requests in ALL_REQUESTS[::9]:
                for many in range(0, 61, 4):
                    expected = min(len(set(requests[:many])), rule[0])
                    self.assertEqual(len(kept(rule, requests[:many])), expected)


class PlacesTest(Case):
    def test_no_places(self):
        for make in OF_PLACES + (tree,):
            for value in NO_PLACES + (nested_deep(20),):
                self.assertRaises(NoPlaces, make, value)
        self.assertRaises(NoPlaces, tree, 3)

    def test_segments(self):
        for trial, tried in itertools.product(range(-1, 6), repeat=2):
            if (trial, tried) in SEGMENTS:
                self.assertEqual(segments(trial, tried)[0], trial + tried)
            else:
                self.assertRaises(NoPlaces, segments, trial, tried)
        for value in NO_PLACES:
            self.assertRaises(NoPlaces, segments, value, 1)
            self.assertRaises(NoPlaces, segments, 1, value)


class FamilyTest(Case):
    def test_family(self):
        for make in OF_PLACES:
            for most in range(1, 5):
                self.assert_same(family(make, most), tuple(make(places) for places in range(1, most + 1)))

    def test_no_function(self):
        others = (tree, segments, family, is_family, lambda places: ONE, "queue", [queue], (queue,), ONE)
        for value in ODD + others:
            for most in (2, 0, 5, True, None):
                self.assertRaises(NoRule, family, value, most)

    def test_no_places(self):
        for make in OF_PLACES:
            for value in NO_PLACES:
                self.assertRaises(NoPlaces, family, make, value)

    def test_is_family(self):
        for make in OF_PLACES:
            for most in range(1, 5):
                self.assertIs(is_family(family(make, most)), True)
        four = (queue(1), newest(2), MIXED, tree(4))
        for many in range(5):
            self.assertIs(is_family(four[:many]), many > 0)

    def test_numbers_of_places(self):
        five = (queue(1), queue(2), queue(3), queue(4), queue(4))
        for value in (five, five[1:], five[:2] + five[:1], five[1::-1], five[:1] * 2, five[:3:2], (),
                      (queue(2),), five[:1] + five[2:3], five[0], (five[:2],), list(five[:2])):
            self.assertIs(is_family(value), False)

    def test_odd_values(self):
        for value in ODD + (nested_deep(20), (0,) * 20000, (ONE,) * 200):
            self.assertIs(is_family(value), False)

    def test_wrong_parts_and_shapes(self):
        good = (ONE, RECENT_2)
        for wrong in WRONG_PARTS:
            for value in replaced(good, wrong):
                self.assertIs(is_family(value), False)
        for value in reshaped(good):
            # A label row may stand twice, and the first rule alone is a family.
            allowed = ((ONE,), ((1, ONE[1] * 2), RECENT_2), (ONE, (2, RECENT_2[1] * 2)))
            self.assertIs(is_family(value), value in allowed)
        self.assertIs(is_family(((True, ONE[1]),)), False)
        self.assertIs(is_family(((1, [ONE[1][0]]),)), False)


class GeneralTest(Case):
    def test_by_name(self):
        for make in OF_PLACES + (tree,):
            self.assertEqual(make(places=2), make(2))
        self.assertEqual(segments(tried=1, trial=3), segments(3, 1))
        self.assertEqual(family(most=2, rule_of=queue), family(queue, 2))
        self.assertIs(is_family(thing=(ONE,)), True)

    def test_again_gives_the_same(self):
        for make in OF_PLACES:
            first = copy.deepcopy(make(4))
            make(3)
            self.assertRaises(NoPlaces, make, 5)
            self.assert_same(make(4), first)
        self.assert_same(family(chance, 3), copy.deepcopy(family(chance, 3)))
        self.assert_same(segments(2, 2), segments(2, 2))

    def test_nothing_is_modified(self):
        for value in ODD + ([ONE], (ONE, RECENT_2), nested_deep(20)):
            self.assert_unmodified(value, (
                lambda: is_family(value), lambda: family(value, 1), lambda: family(queue, value)))


if __name__ == "__main__":
    unittest.main()
