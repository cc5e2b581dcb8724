"""Tests of goesout.excess: points 2, 3, 50, 51 and 90."""

import copy
import itertools
import unittest

from goesout.excess import excess, shows_excess
from goesout.named import chance, family, newest, queue, recent, tree
from goesout.nested import nested
from goesout.pairs import arrangements, played, start
from goesout.runs import misses
from tests.samples import (
    LATE_PAIRS, MIXED, NEWEST_2, ODD, ONE, PAIRS, QUEUE_2, QUEUE_3, QUEUE_4, RECENT_2, RECENT_3, WIDE, Case,
    all_arrangements, all_walks, made_rule, nested_deep, slow_graph, slow_prices, slow_round, slow_walk,
)

RECENTS = (RECENT_2, RECENT_3)
ALL_PAIRS = PAIRS + LATE_PAIRS


def adds(move):
    """Return what a move adds to the excess."""
    is_hit, is_other_hit, _ = move
    return int(is_hit and not is_other_hit) - int(is_other_hit and not is_hit)


def sum_of(moves):
    return sum(adds(move) for move in moves)


def slow_shows(one, other, thing):
    """Return what shows_excess returns, found by another way than in the program."""
    if type(thing) is not tuple:
        return False
    if len(thing) == 3 and thing[0] == "ever":
        moves = slow_round(one, other, thing[1], thing[2])
        return moves is not None and sum_of(moves) > 0
    if len(thing) != 4 or thing[0] != "most" or type(thing[1]) is not int:
        return False
    moves = slow_walk(one, other, thing[2])
    return moves is not None and sum_of(moves) == thing[1] and slow_prices(one, other, thing[3], adds, thing[1])


def first_walks(one, other, lowest):
    """Return a dict with the first walk to each pair of an arrangement and an excess.

    It leaves out what walks lead to only by an excess below the lowest.
    """
    graph, begin = slow_graph(one, other), (start(one, other), 0)
    found, row = {begin: ()}, [begin]
    while row:
        later = []
        for at, sum_so_far in row:
            for number, move in enumerate(graph[at]):
                then = (move[2], sum_so_far + adds(move))
                if then not in found and then[1] >= lowest:
                    found[then] = found[(at, sum_so_far)] + (number,)
                    later.append(then)
        row = later
    return found


class ExcessTest(Case):
    def test_small_pairs(self):
        self.assert_same(excess(ONE, ONE), ("most", 0, (), (
            ((((-1,), 0), ((-1,), 0)), 0), ((((0,), 0), ((0,), 0)), 0))))
        self.assert_same(excess(ONE, RECENT_2), ("most", 0, (), (
            ((((-1,), 0), ((-1, -1), 0)), 0), ((((0,), 0), ((0, -1), 0)), 0), ((((0,), 0), ((0, 1), 0)), 0))))
        self.assertEqual(excess(RECENT_2, ONE)[0], "ever")
        self.assertEqual(excess(QUEUE_2, QUEUE_3)[:3], ("most", 0, ()))

    def test_prices_below_and_above_0(self):
        self.assertEqual({price for _, price in excess(QUEUE_2, QUEUE_3)[3]}, {-2, -1, 0})
        word, most, walk, prices = excess(*LATE_PAIRS[0])
        self.assert_same((word, most, walk), ("most", 2, (0, 1, 2, 1, 2, 1)))
        self.assertEqual({price for _, price in prices}, {0, 1, 2})

    def test_most(self):
        bounds = set()
        for one, other in ALL_PAIRS:
            told = excess(one, other)
            if told[0] == "most":
                found = first_walks(one, other, -15)
                most = max(price for _, price in found)
                walk = min((found[key] for key in found if key[1] == most), key=lambda walk: (len(walk), walk))
                prices = tuple((at, max(price for then, price in found if then == at))
                               for at in arrangements(one, other))
                self.assert_same(told, ("most", most, walk, prices))
                bounds.add(most)
        self.assertGreaterEqual(bounds, {0, 1, 2, 3})

    def test_the_first_walk(self):
        for one, other in LATE_PAIRS[:2] + LATE_PAIRS[3:4]:
            _, most, walk, _ = excess(one, other)
            walks = (some for some, moves in all_walks(one, other, 6) if sum_of(moves) == most)
            self.assert_same(walk, next(walks))

    def test_ever(self):
        count = 0
        for one, other in ALL_PAIRS:
            told = excess(one, other)
            if told[0] == "ever":
                moves = slow_round(one, other, told[1], told[2])
                self.assertGreater(sum_of(moves), 0)
                self.assert_same(told, ("ever", tuple(told[1]), tuple(told[2])))
                # Each time around there are more misses in the other one.
                requests = played(one, other, told[1] + told[2] * (55 // len(told[2])))[:60]
                self.assertGreater(misses(other, requests), misses(one, requests))
                count += 1
        self.assertGreater(count, 10)

    def test_a_rule_beside_itself(self):
        for rule in (ONE, QUEUE_3, MIXED, WIDE, chance(4), tree(4)):
            told = excess(rule, rule)
            self.assertEqual(told[:3], ("most", 0, ()))
            self.assertTrue(all(price == 0 for _, price in told[3]))

    def test_nested_rules_have_no_excess(self):
        count = 0
        for one, other in ALL_PAIRS + tuple(itertools.combinations(family(recent, 4) + family(newest, 4), 2)):
            if one[0] <= other[0]:
                word = excess(one, other)[0]
                if nested(one, other)[0] == "nested":
                    self.assertEqual(excess(one, other)[:3], ("most", 0, ()))
                    count += 1
                self.assertTrue(word == "most" or nested(one, other)[0] == "apart")
        self.assertGreater(count, 10)

    def test_known_pairs(self):
        # More places may mean more misses for a queue, but not for ever more.
        for places in range(1, 4):
            self.assertEqual(excess(recent(places), recent(places + 1))[:3], ("most", 0, ()))
        self.assertEqual(excess(queue(3), queue(4))[0], "ever")
        self.assertEqual(excess(recent(3), queue(3))[0], "ever")
        self.assertEqual(excess(queue(3), recent(3))[0], "ever")

    def test_too_many(self):
        self.assert_too_many(excess)
        told = excess(QUEUE_4, made_rule(4, 9, 443))
        self.assertIs(shows_excess(QUEUE_4, made_rule(4, 9, 443), told), True)


class ShowsTest(Case):
    def test_what_excess_returns(self):
        for one, other in ALL_PAIRS:
            self.assertIs(shows_excess(one, other, excess(one, other)), True)

    def test_in_any_order(self):
        for one, other in LATE_PAIRS + (RECENTS,):
            word, most, walk, prices = excess(one, other)
            for some in (prices[::-1], prices[3:] + prices[:3], prices[1::2] + prices[::2]):
                self.assertIs(shows_excess(one, other, (word, most, walk, some)), True)

    def test_left_out_or_twice(self):
        for one, other in LATE_PAIRS + (RECENTS,):
            word, most, walk, prices = excess(one, other)
            for at, (arrangement, price) in enumerate(prices):
                for some in (prices[:at] + prices[at + 1:], prices + prices[at:at + 1],
                             prices + ((arrangement, price + 1),), prices + ((arrangement, price - 1),)):
                    self.assertIs(shows_excess(one, other, (word, most, walk, some)), False)
        self.assertIs(shows_excess(*RECENTS, ("most", 0, (), ())), False)

    def test_other_prices(self):
        expected = {True: 0, False: 0}
        for one, other in LATE_PAIRS + (RECENTS, (QUEUE_2, QUEUE_3)):
            word, most, walk, prices = excess(one, other)
            for at, (arrangement, price) in enumerate(prices):
                for other_price in range(price - 2, price + 3):
                    some = prices[:at] + ((arrangement, other_price),) + prices[at + 1:]
                    good = slow_prices(one, other, some, adds, most)
                    self.assertIs(shows_excess(one, other, (word, most, walk, some)), good)
                    expected[good] += other_price != price
        # Some prices may be greater than they must, and others not.
        self.assertGreater(min(expected.values()), 3)

    def test_more_than_walks_lead_to(self):
        word, most, walk, prices = excess(*RECENTS)
        graph = slow_graph(*RECENTS, (((-1, 0), 0), ((0, -1, -1), 0)))
        more = prices + tuple((at, 0) for at in graph if at not in dict(prices))
        self.assertGreater(len(more), len(prices))
        self.assertIs(shows_excess(*RECENTS, (word, most, walk, more)), slow_prices(*RECENTS, more, adds, 0))
        more = prices + tuple((at, -10 ** 12) for at in graph if at not in dict(prices))
        expected = slow_prices(*RECENTS, more, adds, 0)
        self.assertIs(shows_excess(*RECENTS, (word, most, walk, more)), expected)
        whole = tuple((at, 0) for at in map(eval, all_arrangements(*RECENTS)))
        self.assertIs(shows_excess(*RECENTS, (word, most, walk, whole)), slow_prices(*RECENTS, whole, adds, 0))

    def test_walks(self):
        one, other = LATE_PAIRS[3]
        word, most, walk, prices = excess(one, other)
        count = 0
        for some, moves in all_walks(one, other, 6):
            self.assertIs(shows_excess(one, other, (word, most, some, prices)), sum_of(moves) == most)
            # The prices show no smaller number, and the walk none but its own.
            self.assertIs(shows_excess(one, other, (word, sum_of(moves), some, prices)), sum_of(moves) == most)
            count += sum_of(moves) == most
        self.assertGreater(count, 3)
        self.assertIs(shows_excess(one, other, (word, most, walk + (0,) * 300, prices)), True)
        self.assertIs(shows_excess(one, other, (word, most, walk + (9,), prices)), False)
        self.assertIs(shows_excess(one, other, (word, most, list(walk), prices)), False)

    def test_a_number_that_is_too_great(self):
        _, most, walk, prices = excess(*RECENTS)
        for number in (1, -1, 10 ** 12, False, None, "0"):
            self.assertIs(shows_excess(*RECENTS, ("most", number, walk, prices)), False)

    def test_ways_and_rounds(self):
        expected = {True: 0, False: 0}
        for one, other in ((RECENT_2, ONE), (NEWEST_2, QUEUE_3), (RECENT_2, QUEUE_2), (QUEUE_2, QUEUE_3)):
            walks = [walk for walk, _ in all_walks(one, other, 4)]
            for way in walks[:40:3]:
                for turns in walks[::5]:
                    moves = slow_round(one, other, way, turns)
                    good = moves is not None and sum_of(moves) > 0
                    self.assertIs(shows_excess(one, other, ("ever", way, turns)), good)
                    expected[good] += 1
        self.assertGreater(min(expected.values()), 10)

    def test_rounds_of_one_move_gone_twice_and_begun_elsewhere(self):
        pair = (RECENT_2, ONE)
        told = ("ever", (0, 1), (1,))
        self.assertIs(shows_excess(*pair, told), True)
        self.assertIs(shows_excess(*pair, ("ever", (0, 1), (1, 1))), True)
        self.assertIs(shows_excess(*pair, ("ever", (0, 1), (1,) * 300)), True)
        self.assertIs(shows_excess(*pair, ("ever", (0, 1, 1), (1,))), True)
        self.assertIs(shows_excess(*pair, ("ever", (0, 1) + (0,) * 300, (1,))), True)
        self.assertIs(shows_excess(*pair, ("ever", (0, 1), ())), False)
        self.assertIs(shows_excess(*pair, ("ever", (0, 1), (0,))), False)
        self.assertIs(shows_excess(*pair, ("ever", (0,), (1,))), False)
        self.assertIs(shows_excess(*pair, ("ever", (), (1,))), False)
        self.assertIs(shows_excess(*pair, ("ever", (0, 1), (1, 3))), False)
        # Each turn of a round, if it begins one further on.
        for one, other in ALL_PAIRS:
            told = excess(one, other)
            if told[0] == "ever":
                for at in range(len(told[2])):
                    self.assertIs(shows_excess(one, other, (
                        "ever", told[1] + told[2][:at], told[2][at:] + told[2][:at])), True)

    def test_wrong_words(self):
        told, ever = excess(*RECENTS), excess(RECENT_2, ONE)
        for word in ("most", "ever", "ratio", "", None, 0, ["most"], ("most",)):
            self.assertIs(shows_excess(*RECENTS, (word,) + told[1:]), word == "most")
            self.assertIs(shows_excess(RECENT_2, ONE, (word,) + ever[1:]), word == "ever")

    def test_odd_values(self):
        for value in ODD + (nested_deep(20), ("most", 0, (), (0,) * 19000), ("ever", (0,) * 9000, (0,) * 9000)):
            for one, other in ALL_PAIRS:
                self.assertIs(shows_excess(one, other, value), False)

    def test_wrong_parts_and_shapes(self):
        for one, other in (RECENTS, (ONE, QUEUE_2), LATE_PAIRS[3], (RECENT_2, ONE)):
            self.assert_shows(shows_excess, slow_shows, one, other, excess(one, other))


class GeneralTest(Case):
    def test_no_rule(self):
        self.assert_rules_first(excess, shows_excess)

    def test_by_name(self):
        self.assertEqual(excess(other=RECENT_3, one=RECENT_2), excess(*RECENTS))
        self.assertIs(shows_excess(thing=excess(*RECENTS), other=RECENT_3, one=RECENT_2), True)

    def test_nothing_is_modified(self):
        for value in ODD + PAIRS[:6] + (excess(*RECENTS), list(excess(*RECENTS)), excess(RECENT_2, ONE)):
            self.assert_unmodified(value, (
                lambda: excess(value, ONE), lambda: excess(ONE, value), lambda: shows_excess(*RECENTS, value),
                lambda: shows_excess(RECENT_2, ONE, value)))

    def test_again_gives_the_same(self):
        for one, other in ALL_PAIRS:
            first = copy.deepcopy(excess(one, other))
            shows_excess(one, other, ("ever", (0, 9), (1,)))
            self.assert_same(excess(one, other), first)


if __name__ == "__main__":
    unittest.main()
