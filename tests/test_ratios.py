"""Tests of goesout.ratios: points 2, 3, 52 and 90."""

import copy
import fractions
import itertools
import math
import unittest

from goesout.alike import alike, trimmed
from goesout.excess import excess
from goesout.named import chance, family, newest, queue, recent, segments, tree
from goesout.ratios import ratio, shows_ratio
from tests.samples import (
    LATE_PAIRS, MIXED, NEWEST_2, ODD, ONE, PAIRS, QUEUE_2, QUEUE_3, QUEUE_4, RECENT_2, RECENT_3, WIDE, Case,
    all_walks, made_rule, nested_deep, slow_graph, slow_prices, slow_round,
)

QUEUE_RECENT = (QUEUE_2, RECENT_2)
ALL_PAIRS = PAIRS + LATE_PAIRS + (
    (NEWEST_2, RECENT_2), (tree(4), recent(3)), (segments(1, 2), queue(3)), (chance(2), QUEUE_2), (QUEUE_3, chance(2)),
)


def sums(moves):
    """Return the numbers of misses in one, and in other."""
    return sum(not move[0] for move in moves), sum(not move[1] for move in moves)


def worth(p, q):
    return lambda move: q * (not move[0]) - p * (not move[1])


def slow_shows(one, other, thing):
    """Return what shows_ratio returns, found by another way than in the program."""
    if type(thing) is not tuple:
        return False
    if len(thing) == 3 and thing[0] == "ever":
        moves = slow_round(one, other, thing[1], thing[2])
        return moves is not None and sums(moves)[0] > 0 == sums(moves)[1]
    if len(thing) != 5 or thing[0] != "ratio" or type(thing[1]) is not tuple or len(thing[1]) != 2:
        return False
    p, q = thing[1]
    if type(p) is not int or type(q) is not int or q < 1 or fractions.Fraction(p, q).denominator != q:
        return False
    moves = slow_round(one, other, thing[2], thing[3])
    if moves is None or sums(moves)[1] == 0 or q * sums(moves)[0] != p * sums(moves)[1]:
        return False
    return slow_prices(one, other, thing[4], worth(p, q))


def greatest_of_rounds(one, other):
    """Return the greatest ratio of all rounds, or None if there is one without misses in the other."""
    graph, found = slow_graph(one, other), set()
    for begin in graph:
        row = {(begin, 0, 0)}
        for _ in graph:
            row = {(move[2], ours + (not move[0]), theirs + (not move[1]))
                   for at, ours, theirs in row for move in graph[at]}
            found |= {(ours, theirs) for at, ours, theirs in row if at == begin}
    if any(ours and not theirs for ours, theirs in found):
        return None
    return max(fractions.Fraction(ours, theirs) for ours, theirs in found if theirs)


class RatioTest(Case):
    def test_small_pairs(self):
        word, fraction, way, turns, prices = ratio(ONE, ONE)
        self.assert_same((word, fraction), ("ratio", (1, 1)))
        self.assertEqual(sums(slow_round(ONE, ONE, way, turns)), (1, 1))
        self.assertEqual([at for at, _ in prices], sorted(slow_graph(ONE, ONE)))
        self.assert_same(ratio(*QUEUE_RECENT)[:2], ("ratio", (2, 1)))
        self.assert_same(ratio(QUEUE_3, NEWEST_2)[:2], ("ratio", (3, 2)))
        self.assertEqual(ratio(ONE, RECENT_2)[0], "ever")
        self.assertEqual(ratio(NEWEST_2, RECENT_2)[0], "ever")
        self.assert_same(ratio(RECENT_2, NEWEST_2)[:2], ("ratio", (2, 1)))

    def test_the_greatest_ratio_of_rounds(self):
        found = {}
        for one, other in ALL_PAIRS:
            if len(slow_graph(one, other)) < 16:
                told, expected = ratio(one, other), greatest_of_rounds(one, other)
                if expected is None:
                    self.assertEqual(told[0], "ever")
                else:
                    self.assert_same(told[:2], ("ratio", (expected.numerator, expected.denominator)))
                found[expected] = True
        self.assertGreater(len(found), 3)

    def test_what_is_told_shows_it(self):
        for one, other in ALL_PAIRS:
            told = ratio(one, other)
            # The slow way goes through all arrangements there are.
            shows = slow_shows if one[0] + other[0] < 6 else shows_ratio
            self.assertIs(shows(one, other, told), True)
            if told[0] == "ratio":
                self.assertEqual([at for at, _ in told[4]], sorted(slow_graph(one, other)))
                self.assertGreaterEqual(told[1][0], told[1][1])

    def test_known_ratios(self):
        self.assertEqual(ratio(recent(3), queue(3))[1], (3, 1))
        self.assertEqual(ratio(recent(4), queue(4))[1], (4, 1))
        self.assertEqual(ratio(chance(4), tree(4))[1], (5, 1))
        self.assertEqual(ratio(chance(4), segments(1, 1))[1], (4, 3))
        self.assertEqual(ratio(chance(4), newest(2))[1], (5, 3))
        told = ratio(chance(4), queue(4))
        self.assertEqual(told[1], (25, 4))
        moves = slow_round(chance(4), queue(4), told[2], told[3])
        self.assertEqual(4 * sums(moves)[0], 25 * sums(moves)[1])

    def test_a_rule_beside_itself(self):
        for rule in (ONE, QUEUE_3, MIXED, WIDE, chance(4), tree(4), segments(3, 1)):
            told = ratio(rule, rule)
            self.assertEqual(told[:2], ("ratio", (1, 1)))
            self.assertIs(shows_ratio(rule, rule, told), True)

    def test_products(self):
        rules = [ONE, RECENT_2, QUEUE_2, NEWEST_2, RECENT_3, QUEUE_3, newest(3), chance(2), tree(2), segments(1, 2)]
        found, count = {}, 0
        for one, other in itertools.product(rules, repeat=2):
            told = ratio(one, other)
            if told[0] == "ratio":
                found[(one, other)] = fractions.Fraction(*told[1])
        for one, other, third in itertools.product(rules, repeat=3):
            if (one, other) in found and (other, third) in found:
                # Where there are both, there is one of one to third, too.
                self.assertLessEqual(found[(one, third)], found[(one, other)] * found[(other, third)])
                count += 1
        self.assertGreater(count, 150)

    def test_greater_caches_of_a_nested_family(self):
        for rules in (family(recent, 4), family(newest, 4)):
            for smaller, greater in itertools.combinations(rules, 2):
                self.assertEqual(ratio(greater, smaller)[1], (1, 1))

    def test_alike_rules_have_the_same_ratios_and_excesses(self):
        for rule in (RECENT_2, QUEUE_3, chance(2)):
            twice = (rule[0], rule[1] * 2)
            self.assertEqual(alike(rule, twice)[0], "alike")
            for other in (ONE, RECENT_2, QUEUE_2, NEWEST_2, RECENT_3, trimmed(MIXED)):
                self.assertEqual(ratio(twice, other)[:1], ratio(rule, other)[:1])
                if ratio(rule, other)[0] == "ratio":
                    self.assertEqual(ratio(twice, other)[1], ratio(rule, other)[1])
                first, second = excess(rule, other), excess(twice, other)
                self.assertEqual(first[0], second[0])
                if first[0] == "most":
                    self.assertEqual(first[1], second[1])

    def test_too_many(self):
        self.assert_too_many(ratio)
        pair = (QUEUE_4, made_rule(4, 9, 443))
        self.assertIs(shows_ratio(*pair, ratio(*pair)), True)


class ShowsTest(Case):
    def test_what_ratio_returns(self):
        for one, other in ALL_PAIRS:
            self.assertIs(shows_ratio(one, other, ratio(one, other)), True)

    def test_in_any_order_left_out_or_twice(self):
        for one, other in (QUEUE_RECENT, (QUEUE_3, NEWEST_2)):
            word, fraction, way, turns, prices = ratio(one, other)
            for some in (prices[::-1], prices[2:] + prices[:2]):
                self.assertIs(shows_ratio(one, other, (word, fraction, way, turns, some)), True)
            for at, (arrangement, price) in enumerate(prices):
                for some in (prices[:at] + prices[at + 1:], prices + prices[at:at + 1],
                             prices + ((arrangement, price + 1),)):
                    self.assertIs(shows_ratio(one, other, (word, fraction, way, turns, some)), False)

    def test_other_prices(self):
        expected = {True: 0, False: 0}
        for one, other in (QUEUE_RECENT, (QUEUE_3, NEWEST_2), (RECENT_3, RECENT_2)):
            word, fraction, way, turns, prices = ratio(one, other)
            for at, (arrangement, price) in enumerate(prices):
                for other_price in (price - 3, price - 1, price + 1, price + 2, 10 ** 12):
                    some = prices[:at] + ((arrangement, other_price),) + prices[at + 1:]
                    good = slow_prices(one, other, some, worth(*fraction))
                    self.assertIs(shows_ratio(one, other, (word, fraction, way, turns, some)), good)
                    expected[good] += 1
        self.assertGreater(min(expected.values()), 5)

    def test_no_bound(self):
        # All prices but the first one may be raised together.
        word, fraction, way, turns, prices = ratio(*QUEUE_RECENT)
        first = (((-1, -1), 0), ((-1, -1), 0))
        some = tuple((at, 0 if at == first else price + 10 ** 12) for at, price in prices)
        self.assertIs(shows_ratio(*QUEUE_RECENT, (word, fraction, way, turns, some)), True)
        some = tuple((at, price + 1) for at, price in prices)
        self.assertIs(shows_ratio(*QUEUE_RECENT, (word, fraction, way, turns, some)), False)

    def test_fractions(self):
        for one, other in (QUEUE_RECENT, (ONE, ONE), (QUEUE_3, NEWEST_2)):
            word, (p, q), way, turns, prices = ratio(one, other)
            for some in itertools.product(range(-4, 7), repeat=2):
                told = (word, some, way, turns, prices)
                self.assertIs(shows_ratio(one, other, told), some == (p, q))
                for k in (-1, 2, 10):
                    wide = tuple((at, price * abs(k)) for at, price in prices)
                    self.assertIs(shows_ratio(one, other, (word, (p * k, q * k), way, turns, wide)), False)

    def test_fractions_below_1(self):
        # With prices for minus the worth, all would fit but for the signs.
        pair = (ONE, ONE)
        word, _, way, turns, prices = ratio(*pair)
        zeros = tuple((at, 0) for at, _ in prices)
        self.assertIs(shows_ratio(*pair, (word, (1, 1), way, turns, zeros)), True)
        for some in ((-1, -1), (0, 1), (0, 0), (1, 0), (1, 2), (-1, 1), (1, -1), (2, 2)):
            self.assertIs(shows_ratio(*pair, (word, some, way, turns, zeros)), False)

    def test_a_greater_fraction_has_no_round(self):
        # There are prices for 3 / 1, but no round comes to it.
        word, _, way, turns, prices = ratio(*QUEUE_RECENT)
        self.assertIs(slow_prices(*QUEUE_RECENT, prices, worth(3, 1)), True)
        for walk, _ in all_walks(*QUEUE_RECENT, 5):
            self.assertIs(shows_ratio(*QUEUE_RECENT, (word, (3, 1), way, walk, prices)), False)

    def test_a_smaller_fraction_has_no_prices(self):
        graph = slow_graph(*QUEUE_RECENT)
        self.assertIsNotNone(slow_round(*QUEUE_RECENT, (0, 1), (2, 2)))
        for first in itertools.product(range(3), repeat=len(graph) - 1):
            prices = tuple(zip(graph, (0,) + first))
            self.assertIs(shows_ratio(*QUEUE_RECENT, ("ratio", (1, 1), (0, 1), (2, 2), prices)), False)

    def test_ways_and_rounds(self):
        for one, other in (QUEUE_RECENT, (QUEUE_3, NEWEST_2), (ONE, RECENT_2), (RECENT_2, ONE)):
            told = ratio(one, other)
            walks = [walk for walk, _ in all_walks(one, other, 4)]
            expected = {True: 0, False: 0}
            for way, turns in itertools.product(walks[::9], walks[::2]):
                ours, theirs = sums(slow_round(one, other, way, turns) or ())
                if told[0] == "ever":
                    value, good = ("ever", way, turns), ours > 0 == theirs
                else:
                    value = told[:2] + (way, turns, told[4])
                    good = theirs > 0 and told[1][1] * ours == told[1][0] * theirs
                self.assertIs(shows_ratio(one, other, value), good)
                expected[good] += 1
            self.assertGreater(expected[False], 10)

    def test_rounds_without_a_miss_in_other(self):
        word, fraction, way, _, prices = ratio(*QUEUE_RECENT)
        # All moves of this round are hits in both, so any fraction would fit.
        self.assertEqual(sums(slow_round(*QUEUE_RECENT, (0,), (0,))), (0, 0))
        self.assertIs(shows_ratio(*QUEUE_RECENT, (word, fraction, (0,), (0,), prices)), False)
        self.assertIs(shows_ratio(*QUEUE_RECENT, ("ever", (0,), (0,))), False)

    def test_rounds_of_one_move_gone_twice_and_begun_elsewhere(self):
        pair = (ONE, RECENT_2)
        self.assertIs(shows_ratio(*pair, ("ever", (0, 1), (1,))), True)
        self.assertIs(shows_ratio(*pair, ("ever", (0, 1) + (0,) * 300, (1,) * 300)), True)
        for way, turns in (((0, 1), ()), ((0, 1), (0,)), ((0,), (1,)), ((), (1,)), ((0, 1), (2,)), ((0, 1), (1, 2)),
                           ((0, 1), (3,)), ((0, 3), (1,)), ([0, 1], (1,)), ((0, 1), [1])):
            self.assertIs(shows_ratio(*pair, ("ever", way, turns)), False)
        for one, other in ALL_PAIRS:
            told = ratio(one, other)
            way, turns = told[-2:] if told[0] == "ever" else told[2:4]
            for at in range(len(turns)):
                new = (way + turns[:at], (turns[at:] + turns[:at]) * 2)
                value = ("ever",) + new if told[0] == "ever" else told[:2] + new + told[4:]
                self.assertIs(shows_ratio(one, other, value), True)

    def test_wrong_words(self):
        told, ever = ratio(*QUEUE_RECENT), ratio(ONE, RECENT_2)
        for word in ("most", "ever", "ratio", "", None, 0, ["ratio"], ("ever",)):
            self.assertIs(shows_ratio(*QUEUE_RECENT, (word,) + told[1:]), word == "ratio")
            self.assertIs(shows_ratio(ONE, RECENT_2, (word,) + ever[1:]), word == "ever")

    def test_odd_values(self):
        for value in ODD + (nested_deep(20), ("ratio", (1, 1), (0,), (1,), (0,) * 19000)):
            for one, other in ALL_PAIRS:
                self.assertIs(shows_ratio(one, other, value), False)

    def test_wrong_parts_and_shapes(self):
        for one, other in (QUEUE_RECENT, (ONE, ONE), (RECENT_2, ONE), (ONE, RECENT_2)):
            self.assert_shows(shows_ratio, slow_shows, one, other, ratio(one, other))


class GeneralTest(Case):
    def test_no_rule(self):
        self.assert_rules_first(ratio, shows_ratio)

    def test_by_name(self):
        self.assertEqual(ratio(other=RECENT_2, one=QUEUE_2), ratio(*QUEUE_RECENT))
        self.assertIs(shows_ratio(thing=ratio(*QUEUE_RECENT), other=RECENT_2, one=QUEUE_2), True)

    def test_in_lowest_terms(self):
        for one, other in ALL_PAIRS:
            told = ratio(one, other)
            if told[0] == "ratio":
                self.assertEqual(math.gcd(*told[1]), 1)

    def test_nothing_is_modified(self):
        for value in ODD + PAIRS[:6] + (ratio(*QUEUE_RECENT), list(ratio(*QUEUE_RECENT)), ratio(ONE, RECENT_2)):
            self.assert_unmodified(value, (
                lambda: ratio(value, ONE), lambda: ratio(ONE, value),
                lambda: shows_ratio(*QUEUE_RECENT, value), lambda: shows_ratio(ONE, RECENT_2, value)))

    def test_again_gives_the_same(self):
        for one, other in ALL_PAIRS:
            first = copy.deepcopy(ratio(one, other))
            shows_ratio(one, other, ("ever", (0, 9), (1,)))
            self.assert_same(ratio(one, other), first)


if __name__ == "__main__":
    unittest.main()
