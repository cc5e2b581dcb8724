"""Tests of goesout.against: points 2, 3, 62 and 90."""

import ast
import copy
import fractions
import functools
import itertools
import math
import random
import unittest

from goesout.against import Contest, against, shows_against, stood
from goesout.best import fewest
from goesout.errors import NoPath, NoPlaces, NoRule
from goesout.named import chance, newest, queue, recent, segments, tree
from goesout.rules import asked, beginning
from goesout.runs import behind, misses
from tests.samples import (
    MIXED, NARROW, NEWEST_2, ODD, ONE, QUEUE_2, QUEUE_3, RECENT_2, RECENT_3, WIDE, WRONG_PARTS, Case, made_rule,
    nested_deep, replaced, reshaped,
)

RULES = (ONE, RECENT_2, QUEUE_2, NEWEST_2, RECENT_3, QUEUE_3, MIXED, NARROW, chance(2), chance(3), tree(2),
         segments(1, 1), segments(1, 2), segments(2, 1)) + tuple(
             made_rule(2 + seed % 2, 1 + seed % 4, seed) for seed in range(10))
GREAT = (recent(4), queue(4), newest(4), chance(4), tree(4), segments(2, 2), segments(1, 3), WIDE, made_rule(4, 3, 1))
CONTESTS = tuple((rule, places) for rule in RULES for places in range(1, rule[0] + 1))
ALL_CONTESTS = CONTESTS + tuple((rule, places) for rule in GREAT for places in range(1, 5))
FUNCTIONS = (lambda rule, places: stood(rule, places, ()), against,
             lambda rule, places: shows_against(rule, places, None))
# Names of things: those of the rule are named by their places, so that
# these two are never among them.
FIRST_OTHER, FRESH = 50, 99


def standing_of(state, best):
    """Return the standing for a state of the rule and a set of the things in the best cache."""
    row, label = state
    return (label, tuple(-1 if thing < 0 else int(thing in best) for thing in row), len(best - set(row)))


def slow_turns(rule, places, standing):
    """Return a dict with (is_hit, is_hit, standing) for each turn, found with things."""
    label, marks, others = standing
    row = tuple(-1 if mark < 0 else place for place, mark in enumerate(marks))
    best = {place for place, mark in enumerate(marks) if mark == 1} | set(range(FIRST_OTHER, FIRST_OTHER + others))
    names = {-2: FRESH, **({-1: FIRST_OTHER} if others else {}), **{place: place for place in row if place >= 0}}
    found = {}
    for number, thing in names.items():
        is_hit, _, state = asked(rule, (row, label), thing)
        lost = [-2]
        if thing not in best and len(best) == places:
            lost = [goes for goes in names if names[goes] in best]
        for goes in lost:
            then = (best - {names[goes]} if goes != -2 else best) | {thing}
            found[(number, goes)] = (is_hit, thing in best, standing_of(state, then))
    return found


def slow_path(rule, places, path, begin=None):
    """Return a list with what each turn of a path does, or None if any value is no path."""
    at, found = begin or (0, beginning(rule)[0], 0), []
    if type(path) is not tuple:
        return None
    for turn in path:
        turns = {repr(known): told for known, told in slow_turns(rule, places, at).items()}
        if repr(turn) not in turns:
            return None
        found.append(turns[repr(turn)])
        at = found[-1][2]
    return found


def slow_standings(rule, places):
    """Return a dict with what slow_turns returns, for all to which paths lead."""
    found, left = {}, [(0, beginning(rule)[0], 0)]
    while left:
        at = left.pop()
        if at not in found:
            found[at] = slow_turns(rule, places, at)
            left += [told[2] for told in found[at].values()]
    return found


@functools.lru_cache(None)
def all_standings(rule, places):
    """Return a dict with what slow_turns returns, by the text of each standing there is."""
    return {repr(at): slow_turns(rule, places, at)
            for at in itertools.product(range(len(rule[1])), itertools.product((-1, 0, 1), repeat=rule[0]),
                                        range(places + 1))
            if at[1].count(1) + at[2] <= places}


def made_path(rule, places, many, seed):
    """Return a path of so many turns, always the same for a seed, and what they do."""
    source, at, path, told = random.Random(seed), (0, beginning(rule)[0], 0), (), []
    for _ in range(many):
        turns = slow_turns(rule, places, at)
        path += (source.choice(sorted(turns)),)
        told.append(turns[path[-1]])
        at = told[-1][2]
    return path, told


def made_requests(seed, things):
    """Return 60 requests of so many things, always the same for a seed."""
    source = random.Random(seed)
    return tuple(source.randrange(things) for _ in range(60))


def sums(told):
    """Return the numbers of misses in the rule, and in the best cache."""
    return sum(not turn[0] for turn in told), sum(not turn[1] for turn in told)


def slow_round(rule, places, way, turns):
    """Return what slow_path returns for a round behind a way, or None."""
    told = slow_path(rule, places, way)
    if told is None:
        return None
    at = told[-1][2] if told else (0, beginning(rule)[0], 0)
    found = slow_path(rule, places, turns, at)
    return found if found and found[-1][2] == at else None


def slow_prices(rule, places, thing, p, q):
    """Tell whether any value is prices for this fraction."""
    if type(thing) is not tuple or not all(type(pair) is tuple and len(pair) == 2 for pair in thing):
        return False
    known, prices = all_standings(rule, places), {repr(pair[0]): pair[1] for pair in thing}
    if len(prices) < len(thing) or not set(prices) <= set(known):
        return False
    if not all(type(price) is int for price in prices.values()):
        return False
    if prices.get(repr((0, beginning(rule)[0], 0))) != 0:
        return False
    return all(repr(then) in prices and prices[repr(then)] >= prices[at] + q * (not hit) - p * (not best_hit)
               for at in prices for hit, best_hit, then in known[at].values())


def slow_shows(rule, places, thing):
    """Return what shows_against returns, found by another way than in the program."""
    if type(thing) is not tuple:
        return False
    if len(thing) == 3 and thing[0] == "ever":
        told = slow_round(rule, places, thing[1], thing[2])
        return told is not None and sums(told)[0] > 0 == sums(told)[1]
    if len(thing) != 5 or thing[0] != "ratio" or type(thing[1]) is not tuple or len(thing[1]) != 2:
        return False
    p, q = thing[1]
    if type(p) is not int or type(q) is not int or not p >= q >= 1 or math.gcd(p, q) != 1:
        return False
    told = slow_round(rule, places, thing[2], thing[3])
    if told is None or sums(told)[1] == 0 or q * sums(told)[0] != p * sums(told)[1]:
        return False
    return slow_prices(rule, places, thing[4], p, q)


def greatest_of_rounds(rule, places):
    """Return the greatest ratio of all rounds, or None if there is one without misses in the best cache."""
    graph, found = slow_standings(rule, places), set()
    for begin in graph:
        row = {(begin, 0, 0)}
        for _ in graph:
            row = {(then, ours + (not hit), theirs + (not best_hit))
                   for at, ours, theirs in row for hit, best_hit, then in graph[at].values()}
            found |= {(ours, theirs) for at, ours, theirs in row if at == begin}
    if any(ours and not theirs for ours, theirs in found):
        return None
    return max(fractions.Fraction(ours, theirs) for ours, theirs in found if theirs)


class StoodTest(Case):
    def test_the_empty_path(self):
        for rule, places in ALL_CONTESTS:
            self.assert_same(stood(rule, places, ()), (0, (-1,) * rule[0], 0))

    def test_by_hand(self):
        # The best cache with one place lets 0 go for 1, and 1 go for 0 again.
        self.assert_same(stood(RECENT_2, 1, ((-2, -2),)), (0, (1, -1), 0))
        self.assert_same(stood(RECENT_2, 1, ((-2, -2), (-2, 0))), (0, (1, 0), 0))
        self.assert_same(stood(RECENT_2, 1, ((-2, -2), (-2, 0), (1, 0))), (0, (1, 0), 0))
        # What goes from the rule and stays in the best cache is one of the others.
        path = ((-2, -2), (-2, -2), (-2, 0))
        self.assert_same(stood(RECENT_2, 2, path), (0, (1, 0), 1))
        self.assert_same(stood(RECENT_2, 2, path + ((-1, -2),)), (0, (1, 1), 0))
        self.assert_same(stood(RECENT_2, 2, path + ((-2, -1),)), (0, (1, 1), 0))
        self.assert_same(stood(RECENT_2, 2, path + ((-2, 0),)), (0, (1, 0), 1))
        self.assert_same(stood(RECENT_2, 2, path + ((1, -1),)), (0, (1, 1), 0))
        self.assert_same(stood(RECENT_2, 2, path + ((1, 0),)), (0, (1, 0), 1))

    def test_out_and_goes_are_one_place(self):
        # What both let go is gone.
        self.assert_same(stood(RECENT_2, 2, ((-2, -2), (-2, -2), (-2, 1))), (0, (1, 1), 0))
        self.assert_same(stood(ONE, 1, ((-2, -2), (-2, 0))), (0, (1,), 0))
        self.assert_same(stood(NEWEST_2, 1, ((-2, -2), (-2, 0), (-2, 0))), (0, (1, 0), 0))

    def test_all_turns_of_all_standings_that_paths_lead_to(self):
        for rule, places in CONTESTS:
            paths, left = {(0, beginning(rule)[0], 0): ()}, [(0, beginning(rule)[0], 0)]
            for at in left:
                for turn, told in slow_turns(rule, places, at).items():
                    self.assert_same(stood(rule, places, paths[at] + (turn,)), told[2])
                    if told[2] not in paths:
                        paths[told[2]] = paths[at] + (turn,)
                        left.append(told[2])

    def test_all_other_turns_are_none(self):
        pairs = list(itertools.product(range(-4, 5), repeat=2))
        for rule, places in CONTESTS[::3]:
            for many in range(7):
                path, told = made_path(rule, places, many, many)
                at = told[-1][2] if told else (0, beginning(rule)[0], 0)
                turns = slow_turns(rule, places, at)
                for pair in pairs:
                    if pair in turns:
                        self.assertEqual(stood(rule, places, path + (pair,)), turns[pair][2])
                    else:
                        self.assertRaises(NoPath, stood, rule, places, path + (pair,))

    def test_long_paths(self):
        for rule, places in ALL_CONTESTS:
            for many in (60, 61, 300):
                path, told = made_path(rule, places, many, many)
                self.assert_same(stood(rule, places, path), told[-1][2])
        self.assert_same(stood(RECENT_2, 1, ((-2, -2),) + ((-2, 0),) * 5000), (0, (1, 0), 0))

    def test_paths_are_requests(self):
        # Played with things, a path does what the rule does, and the best cache
        # never has fewer misses than the fewest.
        for rule, places in ALL_CONTESTS:
            path, told = made_path(rule, places, 60, 5)
            state, best, requests, missed = beginning(rule), set(), [], 0
            for number, goes in path:
                rest = sorted(best - set(state[0]))
                fresh = min(set(range(100)) - set(requests))
                thing = fresh if number == -2 else rest[0] if number == -1 else state[0][number]
                lost = None if goes == -2 else rest[-1] if goes == -1 else state[0][goes]
                missed += thing not in best
                best = best - {lost} | {thing}
                state = asked(rule, state, thing)[2]
                requests.append(thing)
            requests = tuple(requests)
            self.assertEqual(stood(rule, places, path), standing_of(behind(rule, requests), best))
            self.assertEqual(sums(told), (misses(rule, requests), missed))
            self.assertGreaterEqual(missed, fewest(requests, places))

    def test_no_path(self):
        good = ((-2, -2), (-2, -2), (-2, 0), (-1, -2))
        self.assertEqual(stood(RECENT_2, 2, good), (0, (1, 1), 0))
        wrong = (list(good), (list(good[0]),), good[0], (good,), good + ((2, -2),), ((-2, -1),), ((-1, -2),),
                 ((0, -2),), ((-2, 0),), ((-2,),), ((-2, -2, -2),), (-2, -2), good + ((True, -2),),
                 good + ((1, False),), ((-2, None),), ((None, -2),), (("-2", -2),), ((-2, -2.0),))
        for value in ODD + wrong + (nested_deep(20), (0,) * 20000, ((-2, -2),) * 2 + ((5, 5),)):
            self.assertRaises(NoPath, stood, RECENT_2, 2, value)
        for part in WRONG_PARTS:
            for value in replaced(good, part):
                if slow_path(RECENT_2, 2, value) is None:
                    self.assertRaises(NoPath, stood, RECENT_2, 2, value)
        for value in reshaped(good):
            told = slow_path(RECENT_2, 2, value)
            if told is None:
                self.assertRaises(NoPath, stood, RECENT_2, 2, value)
            else:
                self.assert_same(stood(RECENT_2, 2, value), told[-1][2])


class AgainstTest(Case):
    def test_recent_and_queue(self):
        for k in range(1, 5):
            for h in range(1, k + 1):
                expected = fractions.Fraction(k, k - h + 1)
                for rule in (recent(k), queue(k)):
                    told = against(rule, h)
                    self.assert_same(told[:2], ("ratio", (expected.numerator, expected.denominator)))
                    self.assertIs(shows_against(rule, h, told), True)

    def test_newest(self):
        for k in range(2, 5):
            for h in range(1, k + 1):
                told = against(newest(k), h)
                self.assertEqual(told[0], "ever" if h > 1 else "ratio")
                self.assertIs(shows_against(newest(k), h, told), True)
        self.assert_same(against(newest(1), 1)[:2], ("ratio", (1, 1)))

    def test_known_ratios(self):
        for rule, places, expected in ((chance(4), 2, (5, 3)), (chance(4), 4, (7, 1)), (tree(4), 3, (2, 1)),
                                       (segments(2, 2), 2, (2, 1)), (chance(4), 1, (1, 1))):
            self.assert_same(against(rule, places)[:2], ("ratio", expected))
        for rule, places in ((tree(4), 4), (segments(2, 2), 3), (WIDE, 2)):
            self.assertEqual(against(rule, places)[0], "ever")

    def test_the_greatest_ratio_of_rounds(self):
        found = {}
        for rule, places in CONTESTS:
            if len(slow_standings(rule, places)) < 16:
                told, expected = against(rule, places), greatest_of_rounds(rule, places)
                if expected is None:
                    self.assertEqual(told[0], "ever")
                else:
                    self.assert_same(told[:2], ("ratio", (expected.numerator, expected.denominator)))
                found[expected] = True
        self.assertGreater(len(found), 4)

    def test_what_is_told_shows_it(self):
        words = {}
        for rule, places in ALL_CONTESTS:
            told = against(rule, places)
            self.assertIs(slow_shows(rule, places, told), True)
            self.assertIs(shows_against(rule, places, told), True)
            words[told[0]] = words.get(told[0], 0) + 1
            if told[0] == "ratio":
                self.assertEqual(told[4], tuple(sorted(told[4])))
        self.assertGreater(min(words.values()), 20)

    def test_the_ratio_to_the_fewest_misses(self):
        # By the prices q times the misses are at most p times the fewest, and the greatest price.
        for rule, places in ALL_CONTESTS:
            told = against(rule, places)
            if told[0] == "ratio":
                (p, q), most = told[1], max(price for _, price in told[4])
                for things in (3, 4, 5, 7, 12):
                    requests = made_requests(things, things)
                    self.assertLessEqual(q * misses(rule, requests), p * fewest(requests, places) + most)

    def test_greater_best_caches_have_greater_ratios(self):
        for rule in RULES + GREAT:
            found = [against(rule, places) for places in range(1, rule[0] + 1)]
            worths = [math.inf if told[0] == "ever" else fractions.Fraction(*told[1]) for told in found]
            self.assertEqual(worths, sorted(worths))

    def test_many_labels(self):
        for seed in range(3):
            rule = made_rule(4, 16, seed)
            for places in range(1, 5):
                self.assertIs(slow_shows(rule, places, against(rule, places)), True)


class ShowsTest(Case):
    def test_prices_in_any_order_left_out_or_twice(self):
        for rule, places in ((RECENT_2, 2), (QUEUE_3, 2), (chance(2), 2)):
            word, fraction, way, turns, prices = against(rule, places)
            self.assertIs(shows_against(rule, places, (word, fraction, way, turns, prices[::-1])), True)
            for at, (standing, price) in enumerate(prices):
                for some in (prices[:at] + prices[at + 1:], prices + prices[at:at + 1],
                             prices + ((standing, price + 1),)):
                    self.assertIs(shows_against(rule, places, (word, fraction, way, turns, some)), False)

    def test_other_prices(self):
        expected = {True: 0, False: 0}
        for rule, places in ((RECENT_2, 2), (QUEUE_3, 2), (chance(2), 1)):
            word, fraction, way, turns, prices = against(rule, places)
            for at, (standing, price) in enumerate(prices):
                for other in (price - 3, price - 1, price + 1, price + 2, 10 ** 12):
                    some = prices[:at] + ((standing, other),) + prices[at + 1:]
                    good = slow_prices(rule, places, some, *fraction)
                    self.assertIs(shows_against(rule, places, (word, fraction, way, turns, some)), good)
                    expected[good] += 1
        self.assertGreater(min(expected.values()), 5)

    def test_standings_to_which_no_path_leads(self):
        expected = {True: 0, False: 0}
        for rule, places in ((RECENT_2, 2), (QUEUE_3, 1), (MIXED, 1)):
            word, fraction, way, turns, prices = against(rule, places)
            for at in itertools.product(range(-1, 4), itertools.product(range(-2, 3), repeat=rule[0]), range(-1, 4)):
                if at not in dict(prices):
                    for price in (-50, 0, 50):
                        some = prices + ((at, price),)
                        good = slow_prices(rule, places, some, *fraction)
                        self.assertIs(shows_against(rule, places, (word, fraction, way, turns, some)), good)
                        expected[good] += 1
        self.assertGreater(min(expected.values()), 20)

    def test_which_standings_there_are(self):
        for rule, places in ((ONE, 1), (RECENT_2, 1), (QUEUE_2, 2), (MIXED, 2), (QUEUE_3, 3)):
            known, contest = all_standings(rule, places), Contest(rule, places)
            for at in itertools.product(range(-1, 5), itertools.product(range(-2, 3), repeat=rule[0]), range(-1, 6)):
                self.assertIs(contest.holds(at), repr(at) in known)

    def test_all_standings_there_are(self):
        # Prices for all of them, found by raising what is too low again and again.
        for rule, places in ((RECENT_2, 2), (QUEUE_3, 2), (MIXED, 1)):
            word, (p, q), way, turns, prices = against(rule, places)
            known = all_standings(rule, places)
            found = {at: -100 for at in known}
            found.update({repr(at): price for at, price in prices})
            for _ in known:
                for at, told in known.items():
                    for hit, best_hit, then in told.values():
                        least = found[at] + q * (not hit) - p * (not best_hit)
                        found[repr(then)] = max(found[repr(then)], least)
            some = tuple((ast.literal_eval(at), price) for at, price in found.items())
            self.assertGreater(len(some), len(prices))
            self.assertIs(shows_against(rule, places, (word, (p, q), way, turns, some)), True)
            self.assertIs(shows_against(rule, places, (word, (p, q), way, turns, some[1:])), False)

    def test_fractions(self):
        for rule, places in ((RECENT_2, 2), (ONE, 1), (recent(4), 2)):
            word, fraction, way, turns, prices = against(rule, places)
            for some in itertools.product(range(-4, 7), repeat=2):
                self.assertIs(shows_against(rule, places, (word, some, way, turns, prices)), some == fraction)
            for k in (-1, 2, 10):
                wide = tuple((at, price * abs(k)) for at, price in prices)
                told = (word, (fraction[0] * k, fraction[1] * k), way, turns, wide)
                self.assertIs(shows_against(rule, places, told), False)

    def test_ways_and_rounds(self):
        for rule, places in ((RECENT_2, 2), (NEWEST_2, 2), (QUEUE_3, 2)):
            told = against(rule, places)
            expected = {True: 0, False: 0}
            paths = [made_path(rule, places, many, seed)[0] for many in range(5) for seed in range(8)]
            paths += list(told[1:]) if told[0] == "ever" else list(told[2:4])
            rounds = [path[at:] for path in paths for at in range(len(path) + 1)]
            for way, turns in itertools.product(paths, rounds):
                value = told[:1] + (way, turns) if told[0] == "ever" else told[:2] + (way, turns, told[4])
                good = slow_shows(rule, places, value)
                self.assertIs(shows_against(rule, places, value), good)
                expected[good] += 1
            self.assertGreater(min(expected.values()), 0)

    def test_rounds_gone_twice_and_begun_elsewhere(self):
        for rule, places in ALL_CONTESTS:
            told = against(rule, places)
            way, turns = told[-2:] if told[0] == "ever" else told[2:4]
            for at in range(0, len(turns), 3):
                new = (way + turns[:at], (turns[at:] + turns[:at]) * 30)
                value = ("ever",) + new if told[0] == "ever" else told[:2] + new + told[4:]
                self.assertIs(shows_against(rule, places, value), True)
            value = ("ever", way, ()) if told[0] == "ever" else told[:3] + ((),) + told[4:]
            self.assertIs(shows_against(rule, places, value), False)

    def test_other_rules_places_and_words(self):
        for rule, places in CONTESTS[:12]:
            told = against(rule, places)
            for other, many in CONTESTS[:12]:
                self.assertIs(shows_against(other, many, told), slow_shows(other, many, told))
            for word in ("most", "ever", "ratio", "", None, 0, ["ratio"], ("ever",)):
                self.assertIs(shows_against(rule, places, (word,) + told[1:]), word == told[0])

    def test_odd_values(self):
        for value in ODD + (nested_deep(20), ("ratio", (1, 1), (0,), (1,), (0,) * 19000)):
            for rule, places in CONTESTS[:12]:
                self.assertIs(shows_against(rule, places, value), False)

    def test_wrong_parts_and_shapes(self):
        for rule, places in ((ONE, 1), (RECENT_2, 1), (RECENT_2, 2), (NEWEST_2, 2), (chance(2), 1)):
            self.assert_shows(shows_against, slow_shows, rule, places, against(rule, places))


class WrongTest(Case):
    def test_no_rule(self):
        for function in FUNCTIONS:
            for value in ODD + (nested_deep(20), (2, [QUEUE_2[1][0]])):
                self.assertRaises(NoRule, function, value, 1)
            for value in replaced(QUEUE_2, True):
                self.assertRaises(NoRule, function, value, 1)

    def test_no_places(self):
        for function in FUNCTIONS:
            for rule in RULES + GREAT:
                for places in range(-3, 10):
                    if 1 <= places <= rule[0]:
                        function(rule, places)
                    else:
                        self.assertRaises(NoPlaces, function, rule, places)
            for value in ODD + (nested_deep(20), (2,), [2], "2"):
                self.assertRaises(NoPlaces, function, RECENT_2, value)

    def test_which_error_comes_first(self):
        for value in ODD:
            for function in FUNCTIONS:
                self.assertRaises(NoRule, function, value, value)
            self.assertRaises(NoRule, stood, value, value, 7)
            self.assertRaises(NoPlaces, stood, RECENT_2, value, 7)
        self.assertRaises(NoPlaces, stood, RECENT_2, 3, ((5, 5),))


class GeneralTest(Case):
    def test_by_name(self):
        self.assertEqual(stood(path=((-2, -2),), places=1, rule=RECENT_2), (0, (1, -1), 0))
        self.assertEqual(against(places=2, rule=QUEUE_3), against(QUEUE_3, 2))
        self.assertIs(shows_against(thing=against(QUEUE_3, 2), places=2, rule=QUEUE_3), True)

    def test_nothing_is_modified(self):
        for value in ODD + CONTESTS[:5] + (against(RECENT_2, 2), list(against(RECENT_2, 2)), [(-2, -2)], RECENT_2):
            self.assert_unmodified(value, (
                lambda: against(value, 1), lambda: against(RECENT_2, value), lambda: stood(RECENT_2, 1, value),
                lambda: shows_against(RECENT_2, 2, value), lambda: shows_against(value, 1, value)))

    def test_again_gives_the_same(self):
        for rule, places in CONTESTS:
            first = copy.deepcopy(against(rule, places))
            self.assertRaises(NoPath, stood, rule, places, ((-2, -2), (7, 7)))
            self.assert_same(against(rule, places), first)
            self.assertIs(shows_against(rule, places, first), True)


if __name__ == "__main__":
    unittest.main()
