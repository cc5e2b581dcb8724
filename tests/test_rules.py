"""Tests of goesout.rules: points 2, 3, 10, 11 and 12."""

import itertools
import unittest

from goesout.errors import NoRule, NoState, NoThing
from goesout.rules import asked, beginning, is_rule, is_state
from tests.samples import (
    BACK, FRONT_2, FRONT_4, MIXED, NARROW, NEWEST_2, ODD, ONE, QUEUE_2, RECENT_2, RECENT_3, RULES, STAY,
    TURN, WIDE, WRONG_PARTS, Case, nested_deep, plain, replaced, reshaped,
)

MOVE_2 = ((0, 1), 0)
ROW_2 = ((MOVE_2, MOVE_2), 0, (MOVE_2, MOVE_2))


def all_rows(places, things):
    """Return all rows of different things of these, and of blanks."""
    found = itertools.product((-1,) + things, repeat=places)
    return [row for row in found if all(row.count(thing) < 2 for thing in things)]


def asked_slowly(rule, state, thing):
    """Return what asked returns, found by another way than in the program."""
    (row, label), (places, labels) = state, rule
    at = {place: row[place] for place in range(places)}
    free = [place for place in range(places) if at[place] == -1]
    found = [place for place in range(places) if at[place] == thing]
    lost = None
    if found:
        order, label_then = labels[label][0][found[0]]
    else:
        place = min(free) if free else labels[label][1]
        lost = None if free else at[place]
        at[place] = thing
        order, label_then = labels[label][2][place]
    then = {}
    for new, old in enumerate(order):
        then[new] = at[old]
    return (bool(found), lost, (tuple(then[place] for place in range(places)), label_then))


def is_rule_slowly(thing):
    """Return what is_rule returns, found part by part as the document says it."""
    if type(thing) is not tuple or len(thing) != 2:
        return False
    places, labels = thing
    if type(places) is not int or not 1 <= places <= 4:
        return False
    if type(labels) is not tuple or not 1 <= len(labels) <= 16:
        return False
    for row in labels:
        if type(row) is not tuple or len(row) != 3:
            return False
        if type(row[1]) is not int or not 0 <= row[1] < places:
            return False
        for moves in (row[0], row[2]):
            if type(moves) is not tuple or len(moves) != places:
                return False
            for move in moves:
                if type(move) is not tuple or len(move) != 2 or type(move[0]) is not tuple:
                    return False
                if type(move[1]) is not int or not 0 <= move[1] < len(labels):
                    return False
                if any(type(place) is not int for place in move[0]) or sorted(move[0]) != list(range(places)):
                    return False
    return True


def copied(value):
    """Return an equal value that shares no tuple with it."""
    return tuple([copied(part) for part in value]) if isinstance(value, tuple) else value


# The same moves in all label rows, as they are or as copies of them.
LONG_MOVES = tuple((order, (place + 1) % 5) for place, order in enumerate(FRONT_4))
LONG = (4, ((LONG_MOVES, 3, LONG_MOVES),) * 5)
AGAIN = (ONE, (1, ONE[1] * 3), (2, RECENT_2[1] * 4), (2, QUEUE_2[1] * 2), (3, RECENT_3[1] * 2), MIXED, LONG,
         (4, WIDE[1][:1] * 16))


class IsRuleTest(Case):
    def test_rules(self):
        for rule in RULES:
            self.assertIs(is_rule(rule), True)

    def test_numbers_of_places(self):
        for places in range(1, 5):
            order = tuple(range(places))
            self.assertIs(is_rule(plain(places, 0, (order,) * places)), True)
        for places in (0, 5):
            order = tuple(range(places))
            self.assertIs(is_rule(plain(places, 0, (order,) * places)), False)

    def test_places_do_not_fit_the_rows(self):
        for places in (1, 3, 4):
            self.assertIs(is_rule((places, (ROW_2,))), False)

    def test_numbers_of_labels(self):
        for many in range(20):
            self.assertIs(is_rule((2, (ROW_2,) * many)), 1 <= many <= 16)

    def test_labels_in_moves(self):
        for many in (1, 2, 15, 16):
            for label in (-1, 0, many - 1, many, 16):
                row = (((FRONT_2[0], label), MOVE_2), 0, (MOVE_2, MOVE_2))
                other = ((MOVE_2, MOVE_2), 0, (MOVE_2, (FRONT_2[1], label)))
                for rows in ((row,) * many, (other,) * many):
                    self.assertIs(is_rule((2, rows)), 0 <= label < many)

    def test_out_is_a_place(self):
        for places in range(1, 5):
            order = tuple(range(places))
            for out in range(-2, 6):
                rule = plain(places, out, (order,) * places)
                self.assertIs(is_rule(rule), 0 <= out < places)

    def test_orders(self):
        for places in range(1, 5):
            for order in itertools.product(range(-1, places + 1), repeat=places):
                good = sorted(order) == list(range(places))
                first = tuple(range(places))
                for orders in ((first,) * (places - 1) + (order,), (order,) * places):
                    self.assertIs(is_rule(plain(places, 0, orders)), good)
                    self.assertIs(is_rule(plain(places, 0, (first,) * places, orders)), good)

    def test_odd_values(self):
        for value in ODD + (nested_deep(20), (0,) * 20000, [0] * 20000, (2, (0,) * 20000)):
            self.assertIs(is_rule(value), False)

    def test_the_errors_are_no_rules(self):
        self.assertIs(is_rule(NoRule("words")), False)
        self.assertIs(is_rule((2, (NoRule("words"),))), False)

    def test_any_part_of_another_kind(self):
        for wrong in WRONG_PARTS:
            for value in replaced(NARROW, wrong):
                self.assertIs(is_rule(value), False)

    def test_bools_for_integers(self):
        # True == 1 and False == 0, so only the kind tells these from rules.
        self.assertIs(is_rule((True, ONE[1])), False)
        self.assertIs(is_rule(plain(2, True, FRONT_2)), False)
        self.assertIs(is_rule(plain(2, 1, ((False, True), (1, 0)))), False)
        self.assertIs(is_rule(plain(2, 1, FRONT_2, ((0, 1), (True, 0)))), False)
        self.assertIs(is_rule((1, (((((0,), False),), 0, (((0,), 0),)),))), False)
        self.assertIs(is_rule((1, (((((0,), 0),), 0, (((0,), False),)),))), False)

    def test_any_part_and_shape_among_equal_moves(self):
        # What equals something that was right before is looked at all the same.
        for rule in AGAIN + tuple(copied(rule) for rule in AGAIN):
            self.assertIs(is_rule(rule), True)
            values = [value for wrong in (True, False, None, [0], (0,), (1, 0), -1, 1, 0, 2)
                      for value in replaced(rule, wrong)] + reshaped(rule)
            for value in values:
                self.assertIs(is_rule(value), is_rule_slowly(value))

    def test_bools_for_each_integer_alone(self):
        for rule in AGAIN + (WIDE, NARROW):
            ones = [value for value in replaced(rule, True) if value == rule]
            zeros = [value for value in replaced(rule, False) if value == rule]
            self.assertGreater(len(zeros), 3)
            self.assertGreater(len(ones), 0)
            for value in ones + zeros:
                self.assertIs(is_rule(value), False)

    def test_bools_in_each_order(self):
        for places in range(1, 5):
            for order in itertools.permutations(range(places)):
                rule = plain(places, 0, (order,) * places)
                self.assertIs(is_rule(rule), True)
                for wrong in (True, False):
                    for value in replaced(rule, wrong):
                        self.assertIs(is_rule(value), is_rule_slowly(value))

    def test_an_empty_tuple_in_the_place_of_moves(self):
        for rule in AGAIN:
            for value in replaced(rule, ()):
                self.assertIs(is_rule(value), False)

    def test_any_tuple_of_another_shape(self):
        for value in reshaped(NARROW):
            self.assertIs(is_rule(value), False)


class StateTest(Case):
    def test_beginning(self):
        self.assert_same(beginning(ONE), ((-1,), 0))
        self.assert_same(beginning(QUEUE_2), ((-1, -1), 0))
        self.assert_same(beginning(MIXED), ((-1, -1, -1), 0))
        self.assert_same(beginning(WIDE), ((-1, -1, -1, -1), 0))

    def test_beginning_is_a_state(self):
        for rule in RULES:
            self.assertIs(is_state(rule, beginning(rule)), True)

    def test_rows(self):
        for rule in (ONE, RECENT_2, MIXED, WIDE):
            for row in all_rows(rule[0], (0, 7, 99)):
                self.assertIs(is_state(rule, (row, 0)), True)

    def test_a_thing_twice(self):
        self.assertIs(is_state(RECENT_2, ((5, 5), 0)), False)
        self.assertIs(is_state(MIXED, ((0, 3, 0), 0)), False)
        self.assertIs(is_state(WIDE, ((99, -1, 99, -1), 0)), False)

    def test_blanks(self):
        for row in ((-1, -1, -1), (-1, 3, -1), (3, -1, -1), (-1, -1, 3), (4, -1, 3)):
            self.assertIs(is_state(MIXED, (row, 2)), True)

    def test_things_from_0_to_99(self):
        for thing in range(-3, 103):
            self.assertIs(is_state(RECENT_2, ((-1, thing), 0)), -1 <= thing <= 99)

    def test_labels(self):
        for rule in RULES:
            row = beginning(rule)[0]
            for label in range(-2, 19):
                self.assertIs(is_state(rule, (row, label)), 0 <= label < len(rule[1]))

    def test_row_of_another_length(self):
        for row in ((), (0,), (0, 1), (0, 1, 2, 3)):
            self.assertIs(is_state(MIXED, (row, 0)), False)

    def test_bools_for_integers(self):
        self.assertIs(is_state(RECENT_2, ((0, True), 0)), False)
        self.assertIs(is_state(RECENT_2, ((False, 1), 0)), False)
        self.assertIs(is_state(RECENT_2, ((0, 1), False)), False)
        self.assertIs(is_state(MIXED, ((0, 1, 2), True)), False)

    def test_odd_values(self):
        for rule in RULES:
            for value in ODD + (nested_deep(20), (0,) * 20000, ((0,) * 20000, 0)):
                self.assertIs(is_state(rule, value), False)

    def test_wrong_parts_and_shapes(self):
        for state in (((3, -1, 0), 1), ((99, 0, 98), 2), ((-1, -1, -1), 0)):
            self.assertIs(is_state(MIXED, state), True)
            for wrong in WRONG_PARTS:
                for value in replaced(state, wrong):
                    self.assertIs(is_state(MIXED, value), False)
            for value in reshaped(state):
                self.assertIs(is_state(MIXED, value), False)

    def test_no_rule(self):
        for value in ODD + (nested_deep(20),):
            self.assertRaises(NoRule, beginning, value)
            self.assertRaises(NoRule, is_state, value, ((0, 1), 0))
            self.assertRaises(NoRule, is_state, value, None)


class AskedTest(Case):
    def test_hit_moves_the_row(self):
        self.assert_same(asked(RECENT_2, ((4, 9), 0), 9), (True, None, ((9, 4), 0)))
        self.assert_same(asked(RECENT_2, ((4, 9), 0), 4), (True, None, ((4, 9), 0)))
        self.assert_same(asked(QUEUE_2, ((4, 9), 0), 9), (True, None, ((4, 9), 0)))
        self.assert_same(asked(RECENT_3, ((4, 9, 2), 0), 2), (True, None, ((2, 4, 9), 0)))

    def test_miss_takes_the_place_out(self):
        self.assert_same(asked(RECENT_2, ((4, 9), 0), 5), (False, 9, ((5, 4), 0)))
        self.assert_same(asked(NEWEST_2, ((4, 9), 0), 5), (False, 4, ((5, 9), 0)))
        self.assert_same(asked(RECENT_3, ((4, 9, 2), 0), 7), (False, 2, ((7, 4, 9), 0)))

    def test_miss_takes_the_first_blank_place(self):
        self.assert_same(asked(RECENT_2, ((-1, -1), 0), 5), (False, None, ((5, -1), 0)))
        self.assert_same(asked(RECENT_2, ((5, -1), 0), 6), (False, None, ((6, 5), 0)))
        self.assert_same(asked(NEWEST_2, ((5, -1), 0), 6), (False, None, ((6, 5), 0)))
        self.assert_same(asked(QUEUE_2, ((-1, 5), 0), 6), (False, None, ((6, 5), 0)))
        self.assert_same(asked(RECENT_3, ((8, -1, -1), 0), 6), (False, None, ((6, 8, -1), 0)))

    def test_one_place(self):
        self.assert_same(asked(ONE, ((-1,), 0), 0), (False, None, ((0,), 0)))
        self.assert_same(asked(ONE, ((0,), 0), 0), (True, None, ((0,), 0)))
        self.assert_same(asked(ONE, ((0,), 0), 99), (False, 0, ((99,), 0)))

    def test_a_hit_beside_blanks(self):
        self.assert_same(asked(RECENT_3, ((-1, -1, 7), 0), 7), (True, None, ((7, -1, -1), 0)))
        self.assert_same(asked(MIXED, ((-1, 7, -1), 1), 7), (True, None, ((7, -1, -1), 2)))

    def test_thing_0_goes(self):
        # The thing 0 is a thing that goes, not None.
        self.assert_same(asked(RECENT_2, ((4, 0), 0), 5), (False, 0, ((5, 4), 0)))

    def test_arranging_by_an_order(self):
        # Place i gets what place order[i] had, not the other way round.
        for order, row in ((TURN, (11, 12, 10)), (BACK, (12, 10, 11)), (STAY, (10, 11, 12))):
            rule = plain(3, 2, (STAY,) * 3, (order,) * 3)
            self.assert_same(asked(rule, ((10, 11, 12), 0), 11), (True, None, (row, 0)))
            rule = plain(3, 2, (order,) * 3, (STAY,) * 3)
            self.assert_same(asked(rule, ((10, 11, 30), 0), 12), (False, 30, (row, 0)))

    def test_labels_choose_the_row(self):
        state = ((10, 11, 12), 0)
        self.assert_same(asked(MIXED, state, 10), (True, None, ((11, 12, 10), 1)))
        self.assert_same(asked(MIXED, state, 12), (True, None, ((10, 11, 12), 2)))
        self.assert_same(asked(MIXED, state, 13), (False, 11, ((10, 13, 12), 1)))
        state = ((10, 11, 12), 1)
        self.assert_same(asked(MIXED, state, 12), (True, None, ((10, 12, 11), 1)))
        self.assert_same(asked(MIXED, state, 13), (False, 12, ((13, 11, 10), 2)))
        state = ((10, 11, 12), 2)
        self.assert_same(asked(MIXED, state, 10), (True, None, ((12, 10, 11), 2)))
        self.assert_same(asked(MIXED, state, 13), (False, 10, ((13, 12, 11), 0)))

    def test_against_another_way(self):
        for rule in RULES:
            for row in all_rows(rule[0], (0, 3, 50, 99)):
                for label in range(len(rule[1])):
                    for thing in (0, 3, 50, 99, 1):
                        found = asked(rule, (row, label), thing)
                        self.assertEqual(found, asked_slowly(rule, (row, label), thing))

    def test_what_comes_back_is_a_state(self):
        for rule in RULES:
            for row in all_rows(rule[0], (0, 99)):
                is_hit, _, state = asked(rule, (row, len(rule[1]) - 1), 99)
                self.assertIs(is_hit, 99 in row)
                self.assertIs(is_state(rule, state), True)

    def test_the_ends_of_the_things(self):
        for thing in (0, 99):
            self.assertEqual(asked(ONE, ((5,), 0), thing), (False, 5, ((thing,), 0)))
        for thing in (-1, 100, -2, 10 ** 13 - 1, True, False, None, "0", (0,), [0], {0: 0}):
            self.assertRaises(NoThing, asked, ONE, ((5,), 0), thing)
            self.assertRaises(NoThing, asked, RECENT_2, ((-1, 1), 0), thing)

    def test_wrong_states(self):
        good = ((0, -1, 1), 1)
        for wrong in WRONG_PARTS:
            for value in replaced(good, wrong):
                self.assertRaises(NoState, asked, MIXED, value, 0)
        for value in reshaped(good):
            self.assertRaises(NoState, asked, MIXED, value, 0)
        self.assertRaises(NoState, asked, RECENT_2, good, 0)

    def test_which_error_comes_first(self):
        for wrong in ODD:
            self.assertRaises(NoRule, asked, wrong, wrong, wrong)
            self.assertRaises(NoRule, asked, wrong, ((0,), 0), -1)
            self.assertRaises(NoState, asked, ONE, wrong, wrong)
            self.assertRaises(NoState, asked, ONE, wrong, 0)
        self.assertRaises(NoThing, asked, ONE, ((0,), 0), -1)


class GeneralTest(Case):
    def test_by_name(self):
        state = ((4, 9), 0)
        self.assertIs(is_rule(thing=RECENT_2), True)
        self.assertEqual(beginning(rule=RECENT_2), ((-1, -1), 0))
        self.assertIs(is_state(thing=state, rule=RECENT_2), True)
        found = asked(thing=9, state=state, rule=RECENT_2)
        self.assertEqual(found, (True, None, ((9, 4), 0)))
        self.assertEqual(asked(RECENT_2, state, thing=9), found)

    def test_nothing_is_modified(self):
        for value in ODD + RULES + (nested_deep(20), [MIXED], {0: NARROW}):
            self.assert_unmodified(value, (
                lambda: is_rule(value), lambda: beginning(value), lambda: is_state(MIXED, value),
                lambda: asked(MIXED, value, 0), lambda: asked(ONE, ((0,), 0), value)))

    def test_again_gives_the_same(self):
        state = ((3, -1, 4), 1)
        first = asked(MIXED, state, 3)
        asked(MIXED, state, 9)
        asked(RECENT_3, state[:1] + (0,), 3)
        self.assert_same(asked(MIXED, state, 3), first)
        self.assertEqual(state, ((3, -1, 4), 1))
        self.assertEqual(is_rule(MIXED), is_rule(MIXED))
        self.assertEqual(beginning(MIXED), beginning(MIXED))

    def test_after_an_error(self):
        self.assertRaises(NoThing, asked, ONE, ((5,), 0), 100)
        self.assertEqual(asked(ONE, ((5,), 0), 6), (False, 5, ((6,), 0)))


if __name__ == "__main__":
    unittest.main()
