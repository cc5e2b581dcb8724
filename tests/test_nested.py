"""Tests of goesout.nested: points 1, 2, 3, 31 and 90."""

import copy
import itertools
import unittest

from goesout.errors import NoPlaces, TooMany
from goesout.named import chance, family, newest, queue, recent, segments, tree
from goesout.nested import nested, shows_nested
from goesout.pairs import arrangements, start
from tests.samples import (
    MIXED, ODD, ONE, PAIRS, QUEUE_2, QUEUE_3, RECENT_2, RECENT_3, WIDE, Case, all_arrangements, all_walks,
    made_rule, nested_deep, slow_graph, slow_moves, slow_walk,
)

QUEUES = (QUEUE_2, QUEUE_3)
RECENTS = (RECENT_2, RECENT_3)
APART = ("apart", (0, 1, 2, 2, 3))
ALLOWED = [(one, other) for one, other in PAIRS if one[0] <= other[0]]
# Pairs with more than 2,000 arrangements.
LARGE = ((queue(4), made_rule(4, 16, 1)), (made_rule(3, 16, 3), made_rule(4, 16, 4)))


def keeps(arrangement):
    """Tell whether the first row lacks nothing that the second one has not."""
    return set(arrangement[0][0]) - {-1} <= set(arrangement[1][0])


def slow_shows(one, other, thing):
    """Return what shows_nested returns, found by another way than in the program."""
    if type(thing) is not tuple or len(thing) != 2:
        return False
    word, told = thing
    if word == "apart":
        moves = slow_walk(one, other, told)
        return bool(moves) and not keeps(moves[-1][2])
    if word != "nested" or type(told) is not tuple:
        return False
    # The text of any arrangement shows what it is, with all kinds.
    texts, known = [repr(at) for at in told], all_arrangements(one, other)
    return (len(set(texts)) == len(texts) and set(texts) <= set(known)
            and repr(start(one, other)) in texts and all(keeps(at) for at in told)
            and all(repr(then) in texts for text in texts for _, _, then in known[text]))


class NestedTest(Case):
    def test_the_session_of_the_document(self):
        self.assert_same(nested(queue(2), queue(3)), ("apart", (0, 1, 2, 2, 3)))
        self.assertEqual((nested(recent(2), recent(3))[0], nested(newest(1), newest(2))[0]),
                         ("nested", "nested"))

    def test_small_pairs(self):
        self.assert_same(nested(ONE, ONE), ("nested", (
            (((-1,), 0), ((-1,), 0)), (((0,), 0), ((0,), 0)))))
        self.assert_same(nested(*RECENTS), ("nested", (
            (((-1, -1), 0), ((-1, -1, -1), 0)), (((0, -1), 0), ((0, -1, -1), 0)),
            (((0, 1), 0), ((0, 1, -1), 0)), (((0, 1), 0), ((0, 1, 2), 0)))))
        self.assert_same(nested(RECENT_2, QUEUE_2), ("apart", (0, 1, 1, 2)))

    def test_the_first_walk_or_all_arrangements(self):
        found = {"nested": 0, "apart": 0}
        for one, other in ALLOWED:
            word, told = nested(one, other)
            found[word] += 1
            if word == "nested":
                self.assert_same(told, arrangements(one, other))
                self.assertTrue(all(keeps(at) for at in told))
            else:
                walks = (walk for walk, moves in all_walks(one, other, 6) if moves and not keeps(moves[-1][2]))
                self.assert_same(told, next(walks))
        self.assertGreater(min(found.values()), 4)

    def test_families_that_are_nested(self):
        for make in (recent, newest):
            for smaller, greater in itertools.combinations(family(make, 4), 2):
                self.assertEqual(nested(smaller, greater)[0], "nested")

    def test_a_rule_beside_itself(self):
        for rule in (ONE, QUEUE_3, MIXED, WIDE, chance(4), tree(4), segments(2, 2)):
            word, told = nested(rule, rule)
            self.assertEqual(word, "nested")
            self.assertTrue(all(at == other for at, other in told))

    def test_any_rule_keeps_what_one_place_keeps(self):
        for seed in range(10):
            self.assertEqual(nested(ONE, made_rule(3, 2, seed))[0], "nested")

    def test_nested_by_way_of_a_third_rule(self):
        rules = [make(places) for make in (recent, queue, newest, chance) for places in (1, 2, 3)]
        rules += [tree(2), segments(1, 1), segments(2, 1), segments(1, 2)]
        word = {(one, other): nested(one, other)[0] for one in rules for other in rules if one[0] <= other[0]}
        count = 0
        for one, other, third in itertools.product(rules, repeat=3):
            if word.get((one, other)) == word.get((other, third)) == "nested":
                self.assertEqual(word[(one, third)], "nested")
                count += 1
        self.assertGreater(count, 100)

    def test_places(self):
        for one, other in itertools.product((ONE, QUEUE_2, RECENT_2, QUEUE_3, WIDE), repeat=2):
            if one[0] <= other[0]:
                self.assertIn(nested(one, other)[0], ("nested", "apart"))
                self.assertIs(shows_nested(one, other, nested(one, other)), True)
            else:
                self.assertRaises(NoPlaces, nested, one, other)
                self.assertRaises(NoPlaces, shows_nested, one, other, None)

    def test_too_many(self):
        self.assert_too_many(nested)
        for one, other in LARGE:
            # They come apart early, but all arrangements are counted first.
            self.assertIs(shows_nested(one, other, nested_walk(one, other)), True)
            self.assertRaises(TooMany, nested, one, other)


def nested_walk(one, other):
    """Return what nested would tell of rules that are apart, if it had no limit."""
    row = [((), start(one, other))]
    while True:
        for walk, at in row:
            if not keeps(at):
                return ("apart", walk)
        row = [(walk + (number,), move[2]) for walk, at in row
               for number, move in enumerate(slow_moves(one, other, at))]


class ShowsTest(Case):
    def test_what_nested_returns(self):
        for one, other in ALLOWED:
            self.assertIs(shows_nested(one, other, nested(one, other)), True)

    def test_in_any_order(self):
        word, told = nested(*RECENTS)
        for some in itertools.permutations(told):
            self.assertIs(shows_nested(*RECENTS, (word, some)), True)

    def test_one_left_out_or_twice(self):
        for one, other in ALLOWED:
            word, told = nested(one, other)
            if word == "nested":
                for at in range(len(told)):
                    self.assertIs(shows_nested(one, other, (word, told[:at] + told[at + 1:])), False)
                    self.assertIs(shows_nested(one, other, (word, told + told[at:at + 1])), False)
        self.assertIs(shows_nested(*RECENTS, ("nested", ())), False)

    def test_more_than_walks_lead_to(self):
        word, told = nested(*RECENTS)
        more = (((-1, 0), 0), ((0, -1, -1), 0))
        self.assertNotIn(more, told)
        all_of_them = tuple(set(told) | set(slow_graph(*RECENTS, more)))
        self.assertGreater(len(all_of_them), len(told))
        self.assertTrue(all(keeps(at) for at in all_of_them))
        self.assertIs(shows_nested(*RECENTS, (word, all_of_them)), True)
        # Blanks are nothing that the second row would have to have.
        blanks = ((((-1, 0), 0), ((0, 1, 2), 0)), (((0, -1), 0), ((0, 1, 2), 0)))
        self.assertIs(shows_nested(*RECENTS, (word, told + blanks)), True)
        # One that leads to others, one whose own rows are not as told.
        self.assertIs(shows_nested(*RECENTS, (word, told + ((((0, 1), 0), ((1, 0, -1), 0)),))), False)
        self.assertIs(shows_nested(*RECENTS, (word, told + ((((0, -1), 0), ((1, 2, 3), 0)),))), False)

    def test_closed_but_not_as_told(self):
        for one, other in ALLOWED:
            if nested(one, other)[0] == "apart":
                self.assertIs(shows_nested(one, other, ("nested", arrangements(one, other))), False)

    def test_closed_without_the_one_at_first(self):
        full = (((0, 1), 0), ((0, 1, 2), 0))
        self.assertEqual(set(slow_graph(*RECENTS, full)), {full})
        self.assertIs(shows_nested(*RECENTS, ("nested", (full,))), False)

    def test_walks(self):
        for one, other in ALLOWED[:14]:
            for walk, moves in all_walks(one, other, 5):
                expected = bool(moves) and not keeps(moves[-1][2])
                self.assertIs(shows_nested(one, other, ("apart", walk)), expected)

    def test_walks_longer_than_60(self):
        self.assertIs(shows_nested(*QUEUES, ("apart", (0,) * 300 + APART[1][1:])), True)
        self.assertIs(shows_nested(*QUEUES, ("apart", (0,) * 300)), False)
        self.assertIs(shows_nested(*QUEUES, ("apart", APART[1] + (0,) * 300)), True)

    def test_wrong_words(self):
        for word in ("apart", "nested", "Nested", "", "ever", None, 0, True, ("apart",), ["apart"]):
            self.assertIs(shows_nested(*QUEUES, (word, APART[1])), word == "apart")
            self.assertIs(shows_nested(*RECENTS, (word, nested(*RECENTS)[1])), word == "nested")

    def test_odd_values(self):
        for value in ODD + (nested_deep(20), ("nested", (0,) * 20000), ("apart", (0,) * 19000), "apart", "nested"):
            for one, other in ALLOWED:
                self.assertIs(shows_nested(one, other, value), False)

    def test_wrong_parts_and_shapes(self):
        for one, other in (QUEUES, RECENTS, (ONE, MIXED)):
            self.assert_shows(shows_nested, slow_shows, one, other, nested(one, other))


class GeneralTest(Case):
    def test_no_rule(self):
        # A rule with True places is no rule, rather than one with fewer.
        self.assert_rules_first(nested, shows_nested)

    def test_which_error_comes_first(self):
        self.assertRaises(NoPlaces, nested, made_rule(4, 16, 4), made_rule(3, 16, 3))

    def test_by_name(self):
        self.assertEqual(nested(other=QUEUE_3, one=QUEUE_2), APART)
        self.assertIs(shows_nested(thing=APART, other=QUEUE_3, one=QUEUE_2), True)

    def test_nothing_is_modified(self):
        for value in ODD + PAIRS[:9] + (APART, list(APART), nested(*RECENTS), [nested(*RECENTS)]):
            self.assert_unmodified(value, (
                lambda: nested(value, QUEUE_3), lambda: nested(ONE, value),
                lambda: shows_nested(*QUEUES, value), lambda: shows_nested(*RECENTS, value)))

    def test_again_gives_the_same(self):
        for one, other in ALLOWED:
            first = copy.deepcopy(nested(one, other))
            shows_nested(one, other, ("apart", (0, 9)))
            self.assert_same(nested(one, other), first)


if __name__ == "__main__":
    unittest.main()
