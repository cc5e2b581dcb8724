"""Tests of goesout.alike: points 2, 3, 53 and 90."""

import copy
import itertools
import random
import unittest

from goesout.alike import alike, shows_alike, trimmed
from goesout.errors import NoRule
from goesout.named import chance, newest, recent, segments, tree
from goesout.pairs import arrangements, start
from goesout.rules import is_rule
from goesout.runs import behind, hits
from tests.samples import (
    MIXED, NARROW, NEWEST_2, ODD, ONE, PAIRS, QUEUE_2, QUEUE_3, RECENT_2, RECENT_3, RULES, WIDE, Case,
    all_arrangements, all_walks, by_turns, in_time, made_rule, nested_deep, replaced, slow_graph, slow_walk,
)

APART = ("apart", (0, 1, 1, 2, 1))
QUEUE_RECENT = (QUEUE_2, RECENT_2)


def relabelled(rule, names):
    """Return a rule whose label of each number is that of names[number] in another one.

    Where several names stand for one label, the moves lead to one or another of them.
    """
    at = {label: [new for new, old in enumerate(names) if old == label] for label in names}
    rows = []
    for new, old in enumerate(names):
        hits_then, out, comes = rule[1][old]
        rows.append((tuple((order, at[label][(new + place) % len(at[label])])
                           for place, (order, label) in enumerate(hits_then)), out,
                     tuple((order, at[label][(new * 3 + place) % len(at[label])])
                           for place, (order, label) in enumerate(comes))))
    return (rule[0], tuple(rows))


def reached(rule):
    """Return the labels to which moves lead from 0 on, in the order in which they are first named."""
    found, done = [0], 0
    while done < len(found):
        row = rule[1][found[done]]
        found += [label for label in dict.fromkeys(move[1] for move in row[0] + row[2]) if label not in found]
        done += 1
    return found


def told_apart(rule):
    """Return all pairs of labels that do not do the same, found pair by pair."""
    rows, places = rule[1], range(rule[0])
    outer = [(row[1], [move[0] for move in row[0] + row[2]]) for row in rows]
    pairs = set(itertools.permutations(range(len(rows)), 2))
    found = {(one, other) for one, other in pairs if outer[one] != outer[other]}
    while True:
        more = {(one, other) for one, other in pairs - found for part in (0, 2) for place in places
                if (rows[one][part][place][1], rows[other][part][place][1]) in found}
        if not more:
            return found
        found |= more


def made_requests(seed, things):
    source = random.Random(seed)
    return tuple(source.randrange(things) for _ in range(60))


def slow_shows(one, other, thing):
    """Return what shows_alike returns, found by another way than in the program."""
    if type(thing) is not tuple or len(thing) != 2:
        return False
    word, told = thing
    if word == "apart":
        moves = slow_walk(one, other, told)
        return bool(moves) and moves[-1][0] is not moves[-1][1]
    if word != "alike" or type(told) is not tuple:
        return False
    texts, known = [repr(at) for at in told], all_arrangements(one, other)
    return (len(set(texts)) == len(texts) and set(texts) <= set(known) and repr(start(one, other)) in texts
            and all(repr(move[2]) in texts and move[0] is move[1] for text in texts for move in known[text]))


# Rules that do the same by other labels, and rules of different numbers of places.
ALIKE_PAIRS = (
    (ONE, ONE), (RECENT_2, RECENT_2), (RECENT_2, (2, RECENT_2[1] * 3)), ((3, QUEUE_3[1] * 16), QUEUE_3),
    (MIXED, relabelled(MIXED, (0, 2, 1))), (relabelled(MIXED, (0, 1, 2, 2, 1, 0)), MIXED),
    (MIXED, relabelled(MIXED, (0, 1, 2, 0, 1, 2, 0))), (tree(2), RECENT_2), (chance(1), ONE),
    (in_time(QUEUE_2, RECENT_2, 2), RECENT_2),
)
PAIRS_HERE = PAIRS + ALIKE_PAIRS + ((newest(3), NEWEST_2), (NEWEST_2, newest(3)), (chance(2), QUEUE_2))


class AlikeTest(Case):
    def test_small_pairs(self):
        self.assert_same(alike(ONE, ONE), ("alike", (
            (((-1,), 0), ((-1,), 0)), (((0,), 0), ((0,), 0)))))
        self.assert_same(alike(*QUEUE_RECENT), APART)
        self.assert_same(alike(ONE, RECENT_2), ("apart", (0, 1, 1)))
        self.assert_same(alike(RECENT_2, ONE), ("apart", (0, 1, 1)))
        self.assert_same(alike(RECENT_3, RECENT_2), ("apart", (0, 1, 2, 2)))
        self.assert_same(alike(tree(2), RECENT_2)[0], "alike")

    def test_alike(self):
        for one, other in ALIKE_PAIRS:
            self.assert_same(alike(one, other), ("alike", arrangements(one, other)))
            self.assert_same(alike(other, one), ("alike", arrangements(other, one)))

    def test_the_first_walk_or_all_arrangements(self):
        found = {"alike": 0, "apart": 0}
        for one, other in PAIRS_HERE:
            word, told = alike(one, other)
            found[word] += 1
            if word == "alike":
                self.assert_same(told, arrangements(one, other))
                for at, moves in slow_graph(one, other).items():
                    self.assertTrue(all(move[0] is move[1] for move in moves))
            else:
                walks = (walk for walk, moves in all_walks(one, other, 7)
                         if moves and moves[-1][0] is not moves[-1][1])
                self.assert_same(told, next(walks))
        self.assertGreater(min(found.values()), 10)

    def test_different_numbers_of_places_both_ways_about(self):
        for one, other in itertools.product((ONE, RECENT_2, QUEUE_3, newest(4)), repeat=2):
            self.assertEqual(alike(one, other)[0], "alike" if one == other else "apart")

    def test_a_rule_beside_itself(self):
        for rule in (QUEUE_3, MIXED, WIDE, chance(4), tree(4), segments(2, 2)):
            self.assertEqual(alike(rule, rule)[0], "alike")

    def test_too_many(self):
        self.assert_too_many(alike)


class ShowsTest(Case):
    def test_what_alike_returns(self):
        for one, other in PAIRS_HERE:
            self.assertIs(shows_alike(one, other, alike(one, other)), True)

    def test_in_any_order_left_out_or_twice(self):
        for one, other in ALIKE_PAIRS:
            word, told = alike(one, other)
            self.assertIs(shows_alike(one, other, (word, told[::-1])), True)
            self.assertIs(shows_alike(one, other, (word, told[1::2] + told[::2])), True)
            for at in range(len(told)):
                self.assertIs(shows_alike(one, other, (word, told[:at] + told[at + 1:])), False)
                self.assertIs(shows_alike(one, other, (word, told + told[at:at + 1])), False)
        self.assertIs(shows_alike(ONE, ONE, ("alike", ())), False)

    def test_more_than_walks_lead_to(self):
        pair = (RECENT_2, RECENT_2)
        word, told = alike(*pair)
        more = (((-1, 0), 0), ((-1, 0), 0))
        self.assertNotIn(more, told)
        self.assertIs(shows_alike(*pair, (word, told + (more,))), True)
        for more in ((((0, 1), 0), ((1, 0), 0)), (((0, -1), 0), ((-1, -1), 0)), (((0, -1), 0), ((-1, 0), 0))):
            expected = slow_shows(*pair, (word, told + (more,)))
            self.assertIs(shows_alike(*pair, (word, told + (more,))), expected)
        self.assertIs(shows_alike(*pair, (word, told + ((((0, -1), 0), ((-1, -1), 0)),))), False)

    def test_closed_but_not_as_told(self):
        for one, other in PAIRS_HERE:
            if alike(one, other)[0] == "apart":
                self.assertIs(shows_alike(one, other, ("alike", arrangements(one, other))), False)

    def test_closed_without_the_one_at_first(self):
        full = (((0,), 0), ((0,), 0))
        self.assertIs(shows_alike(ONE, ONE, ("alike", (full,))), False)

    def test_walks(self):
        expected = {True: 0, False: 0}
        for one, other in PAIRS_HERE:
            for walk, moves in all_walks(one, other, 4):
                good = bool(moves) and moves[-1][0] is not moves[-1][1]
                self.assertIs(shows_alike(one, other, ("apart", walk)), good)
                expected[good] += 1
        self.assertGreater(min(expected.values()), 20)
        self.assertIs(shows_alike(*QUEUE_RECENT, ("apart", ())), False)

    def test_the_last_move(self):
        self.assertIs(shows_alike(*QUEUE_RECENT, APART), True)
        self.assertIs(shows_alike(*QUEUE_RECENT, ("apart", (0,) * 300 + APART[1][1:])), True)
        # A move in between does not count, and neither does one that is none.
        self.assertIs(shows_alike(*QUEUE_RECENT, ("apart", APART[1] + (0,))), False)
        for wrong in (9, -1, True, None, (1,), "1"):
            self.assertIs(shows_alike(*QUEUE_RECENT, ("apart", APART[1][:-1] + (wrong,))), False)
            self.assertIs(shows_alike(*QUEUE_RECENT, ("apart", (wrong,) + APART[1][1:])), False)

    def test_wrong_words(self):
        for word in ("apart", "alike", "nested", "", None, 0, True, ("apart",), ["alike"]):
            self.assertIs(shows_alike(*QUEUE_RECENT, (word, APART[1])), word == "apart")
            self.assertIs(shows_alike(ONE, ONE, (word, alike(ONE, ONE)[1])), word == "alike")

    def test_odd_values(self):
        for value in ODD + (nested_deep(20), ("alike", (0,) * 19000), ("apart", (0,) * 19000), "apart", "alike"):
            for one, other in PAIRS_HERE:
                self.assertIs(shows_alike(one, other, value), False)

    def test_wrong_parts_and_shapes(self):
        for one, other in (QUEUE_RECENT, (ONE, ONE), (RECENT_2, (2, RECENT_2[1] * 3)), (ONE, QUEUE_2)):
            self.assert_shows(shows_alike, slow_shows, one, other, alike(one, other))


class TrimmedTest(Case):
    def check_trimmed(self, rule):
        found = trimmed(rule)
        self.assertIs(is_rule(found), True)
        # As few labels as can be, numbered as they are first named.
        many = len(found[1])
        self.assertEqual(told_apart(found), set(itertools.permutations(range(many), 2)))
        self.assertEqual(reached(found), list(range(many)))
        for things in (2, 3, 5, 9):
            requests = made_requests(things, things)
            for part in (requests, requests[:7], requests[:20]):
                self.assertEqual(behind(found, part)[0], behind(rule, part)[0])
            self.assertEqual(hits(found, requests), hits(rule, requests))
        self.assert_same(trimmed(found), found)
        # The labels of the rule come apart into as many as there are now.
        apart = told_apart(rule)
        groups = {frozenset(other for other in range(len(rule[1])) if (label, other) not in apart)
                  for label in reached(rule)}
        self.assertEqual(len(groups), many)

    def test_rules(self):
        for rule in RULES + tuple(made_rule(2, many, many) for many in range(1, 17)):
            self.check_trimmed(rule)
        for places in range(1, 5):
            self.check_trimmed(chance(places))
            self.check_trimmed(recent(places))

    def test_nothing_to_leave_out(self):
        for rule in (ONE, RECENT_2, QUEUE_3, MIXED, segments(2, 2), tree(4)):
            self.assert_same(trimmed(rule), rule)

    def test_labels_twice(self):
        for rule in (ONE, RECENT_2, QUEUE_3):
            for many in (2, 3, 16):
                self.assert_same(trimmed((rule[0], rule[1] * many)), rule)

    def test_labels_by_other_numbers(self):
        for names in ((0, 2, 1), (0, 1, 2, 2), (0, 2, 1, 0, 1, 2), (0, 0, 0, 1, 1, 1, 2, 2, 2), (0, 1, 2) * 5):
            self.assert_same(trimmed(relabelled(MIXED, names)), MIXED)
        self.assert_same(trimmed(relabelled(MIXED, (1, 0, 2))), trimmed(relabelled(MIXED, (1, 2, 0))))
        self.assertNotEqual(trimmed(relabelled(MIXED, (1, 0, 2))), MIXED)
        for seed in range(20):
            rule = trimmed(made_rule(3, 6, seed))
            names = tuple(range(len(rule[1]))) * 2
            rest = list(names[1:])
            random.Random(seed).shuffle(rest)
            self.assert_same(trimmed(relabelled(rule, (0, *rest))), rule)

    def test_labels_to_which_no_move_leads(self):
        lone = MIXED[1][1]
        self.assert_same(trimmed((3, QUEUE_3[1] + MIXED[1][1:2] * 3)), QUEUE_3)
        self.assert_same(trimmed((3, QUEUE_3[1] + (lone, MIXED[1][0]))), QUEUE_3)
        # Also those that only such labels name.
        stay = ((0,), 0)
        rows = ((((stay,), 0, (stay,))), ((((0,), 2),), 0, (((0,), 1),)), ((((0,), 2),), 0, (((0,), 0),)))
        self.assert_same(trimmed((1, rows)), (1, rows[:1]))

    def test_the_order_of_the_names(self):
        # Label 0 names 3 and then 1, hits before comes; 3 names 2.
        order = ((0, 1), (1, 0))

        def row(out, at_hit, at_miss):
            return (tuple(zip(order, at_hit)), out, tuple(zip(order, at_miss)))
        rule = (2, (row(0, (0, 3), (1, 0)), row(1, (1, 1), (1, 1)),
                    row(1, (0, 0), (0, 0)), row(0, (2, 2), (2, 2))))
        self.assert_same(trimmed(rule), (2, (
            row(0, (0, 1), (2, 0)), row(0, (3, 3), (3, 3)), row(1, (2, 2), (2, 2)), row(1, (0, 0), (0, 0)))))

    def test_long_chains(self):
        for many in (2, 3, 8, 16):
            same = by_turns(2, (False,) * many)
            self.assertEqual(len(same[1]), many)
            self.assert_same(trimmed(same), RECENT_2)
            # Only the last one differs, so that none of them do the same.
            chain = in_time(QUEUE_2, NEWEST_2, many - 1)
            self.assertEqual(len(chain[1]), many)
            self.assert_same(trimmed(chain), chain)
            self.assert_same(trimmed(by_turns(2, (False,) * (many - 1) + (True,))),
                             by_turns(2, (False,) * (many - 1) + (True,)))
            # Where the last one does the same, all are one.
            self.assert_same(trimmed(in_time(QUEUE_2, QUEUE_2, many - 1)), QUEUE_2)

    def test_what_tells_labels_apart(self):
        (at_hit, out, comes), = RECENT_2[1]
        turned = tuple((order[::-1], label) for order, label in at_hit)
        for other in ((turned, out, comes), (at_hit, 0, comes), (at_hit, out, turned),
                      (at_hit[:1] + turned[1:], out, comes), (at_hit, out, turned[:1] + comes[1:])):
            first = (tuple((order, 1) for order, _ in at_hit), out, comes)
            rule = (2, (first, other))
            self.assert_same(trimmed(rule), rule)

    def test_alike_and_the_same_ratio(self):
        for seed in range(10):
            rule = made_rule(2, 4, seed)
            self.assertEqual(alike(rule, trimmed(rule))[0], "alike")

    def test_no_rule(self):
        for value in ODD + (nested_deep(20), (2, [RECENT_2[1][0]])):
            self.assertRaises(NoRule, trimmed, value)
        for value in replaced(NARROW, True):
            self.assertRaises(NoRule, trimmed, value)


class GeneralTest(Case):
    def test_no_rule(self):
        self.assert_rules_first(alike, shows_alike)

    def test_by_name(self):
        self.assertEqual(alike(other=RECENT_2, one=QUEUE_2), APART)
        self.assertIs(shows_alike(thing=APART, other=RECENT_2, one=QUEUE_2), True)
        self.assertEqual(trimmed(rule=MIXED), MIXED)

    def test_nothing_is_modified(self):
        for value in ODD + PAIRS[:6] + RULES + (APART, list(APART), alike(ONE, ONE)):
            self.assert_unmodified(value, (
                lambda: alike(value, ONE), lambda: alike(ONE, value), lambda: trimmed(value),
                lambda: shows_alike(*QUEUE_RECENT, value), lambda: shows_alike(ONE, ONE, value)))

    def test_again_gives_the_same(self):
        for one, other in PAIRS_HERE:
            first = copy.deepcopy(alike(one, other))
            shows_alike(one, other, ("apart", (0, 9)))
            self.assert_same(alike(one, other), first)
            self.assert_same(trimmed(one), trimmed(one))


if __name__ == "__main__":
    unittest.main()
