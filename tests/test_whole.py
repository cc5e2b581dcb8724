"""Tests of the whole program: points 1, 2, 3 and 90, over all files."""

import copy
import doctest
import itertools
import unittest

from goesout import errors
from goesout.against import against, shows_against, stood
from goesout.alike import alike, shows_alike, trimmed
from goesout.best import fewest, plan, shows_fewest
from goesout.caches import Cache, Noted, NotedPinned, Pinned
from goesout.excess import excess, shows_excess
from goesout.levels import levels
from goesout.lines import Line
from goesout.lists import curve, distances, family_nested, going, line, shows_going
from goesout.named import chance, family, is_family, newest, queue, recent, segments, tree
from goesout.nested import nested, shows_nested
from goesout.pairs import arrangements, is_arrangement, moved, played, start, walked
from goesout.ratios import ratio, shows_ratio
from goesout.rules import asked, beginning, is_rule, is_state
from goesout.runs import behind, gone, hits, is_requests, kept, misses
from goesout.texts import read_rule, rule_text
from goesout.writes import is_accesses, line_writebacks, writebacks
from tests.samples import ODD, ONE, Case, nested_deep, replaced

SESSION = """
>>> from goesout.named import newest, queue, recent
>>> from goesout.runs import hits, kept, misses
>>> from goesout.nested import nested
>>> from goesout.pairs import played
>>> hits(recent(2), (0, 1, 0, 2, 0, 1))
(False, False, True, False, True, False)
>>> kept(recent(2), (0, 1, 0, 2, 0, 1)), misses(queue(2), (0, 1, 0, 2, 0, 1))
((0, 1), 5)
>>> nested(queue(2), queue(3))
('apart', (0, 1, 2, 2, 3))
>>> played(queue(2), queue(3), (0, 1, 2, 2, 3))
(0, 1, 2, 0, 3)
>>> nested(recent(2), recent(3))[0], nested(newest(1), newest(2))[0]
('nested', 'nested')
"""
REQUESTS = (0, 1, 0, 2, 0, 1)
ACCESSES = ((0, True), (1, False), (0, True), (2, True))
RECENTS = family(recent, 3)
STATE = ((3, 5), 0)
AT_FIRST = (((-1, -1), 0), ((-1, -1, -1), 0))
RULE, FAMILY, THINGS = errors.NoRule, errors.NoFamily, errors.NoRequests
PLACES, PATH, THING = errors.NoPlaces, errors.NoPath, errors.NoThing
# Of each function good arguments, each with what is raised for a wrong one:
# an error, or False for what the function is to tell of any value.
CALLS = (
    (is_rule, (recent(2), False)), (beginning, (recent(2), RULE)), (is_state, (recent(2), RULE), (STATE, False)),
    (asked, (recent(2), RULE), (STATE, errors.NoState), (3, THING)), (is_requests, (REQUESTS, False)),
    (behind, (recent(2), RULE), (REQUESTS, THINGS)), (kept, (recent(2), RULE), (REQUESTS, THINGS)),
    (hits, (recent(2), RULE), (REQUESTS, THINGS)), (gone, (recent(2), RULE), (REQUESTS, THINGS)),
    (misses, (recent(2), RULE), (REQUESTS, THINGS)), (recent, (2, PLACES)), (queue, (2, PLACES)), (newest, (2, PLACES)),
    (chance, (2, PLACES)), (tree, (2, PLACES)), (segments, (2, PLACES), (1, PLACES)),
    (family, (recent, RULE), (3, PLACES)),
    (is_family, (RECENTS, False)), (start, (recent(2), RULE), (queue(3), RULE)),
    (is_arrangement, (recent(2), RULE), (queue(3), RULE), (AT_FIRST, False)),
    (moved, (recent(2), RULE), (queue(3), RULE), (AT_FIRST, errors.NoArrangement), (0, errors.NoNumber)),
    (walked, (recent(2), RULE), (queue(3), RULE), ((0, 1, 1), errors.NoWalk)),
    (played, (recent(2), RULE), (queue(3), RULE), ((0, 1, 1), errors.NoWalk)),
    (arrangements, (recent(2), RULE), (queue(3), RULE)), (nested, (recent(2), RULE), (queue(3), RULE)),
    (shows_nested, (recent(2), RULE), (recent(3), RULE), (nested(recent(2), recent(3)), False)),
    (shows_nested, (queue(2), RULE), (queue(3), RULE), (nested(queue(2), queue(3)), False)),
    (family_nested, (RECENTS, FAMILY)), (line, (RECENTS, FAMILY), (REQUESTS, THINGS)),
    (going, (RECENTS, FAMILY), (REQUESTS, THINGS)), (distances, (RECENTS, FAMILY), (REQUESTS, THINGS)),
    (curve, (RECENTS, FAMILY), (REQUESTS, THINGS)),
    (shows_going, (RECENTS, FAMILY), (REQUESTS, THINGS), (going(RECENTS, REQUESTS), False)),
    (excess, (queue(2), RULE), (recent(2), RULE)),
    (shows_excess, (queue(2), RULE), (queue(3), RULE), (excess(queue(2), queue(3)), False)),
    (shows_excess, (recent(2), RULE), (newest(2), RULE), (excess(recent(2), newest(2)), False)),
    (ratio, (queue(2), RULE), (recent(2), RULE)),
    (shows_ratio, (queue(2), RULE), (recent(2), RULE), (ratio(queue(2), recent(2)), False)),
    (shows_ratio, (newest(2), RULE), (recent(2), RULE), (ratio(newest(2), recent(2)), False)),
    (alike, (queue(2), RULE), (recent(2), RULE)), (trimmed, (chance(2), RULE)),
    (shows_alike, (queue(2), RULE), (queue(2), RULE), (alike(queue(2), queue(2)), False)),
    (shows_alike, (queue(2), RULE), (recent(2), RULE), (alike(queue(2), recent(2)), False)),
    (fewest, (REQUESTS, THINGS), (2, PLACES)), (plan, (REQUESTS, THINGS), (2, PLACES)),
    (shows_fewest, (REQUESTS, THINGS), (2, PLACES), (plan(REQUESTS, 2), False)),
    (stood, (recent(2), RULE), (2, PLACES), (((-2, -2), (0, -2)), PATH)), (against, (recent(2), RULE), (2, PLACES)),
    (shows_against, (recent(2), RULE), (2, PLACES), (against(recent(2), 2), False)),
    (shows_against, (newest(2), RULE), (2, PLACES), (against(newest(2), 2), False)),
    (is_accesses, (ACCESSES, False)), (writebacks, (recent(2), RULE), (ACCESSES, errors.NoAccesses)),
    (line_writebacks, (RECENTS, FAMILY), (ACCESSES, errors.NoAccesses)),
    (levels, (1, PLACES), (2, PLACES), (REQUESTS, THINGS)), (rule_text, (recent(2), RULE)),
    (read_rule, (rule_text(recent(2)), errors.NoText)),
    (Cache, (recent(2), RULE)), (Noted, (recent(2), RULE)), (Pinned, (recent(2), RULE), (3, THING), (4, THING)),
    (NotedPinned, (recent(2), RULE), (3, THING), (4, THING)), (Line, (RECENTS, FAMILY)),
    (Cache(recent(2)).ask, (3, THING)), (Cache(recent(2)), (3, THING)),
    (Noted(recent(2)).ask_all, (3, THING), (4, THING)),
    (Pinned(recent(2), 7).ask_all, (3, THING), (4, THING)), (NotedPinned(recent(2), 7).ask, (3, THING)),
    (Line(RECENTS).ask, (3, THING)), (Line(RECENTS), (3, THING)),
)


def objects():
    """Return objects of all classes of the package: empty ones, filled ones, errors."""
    found = [Cache(ONE), Cache(recent(2)), Pinned(queue(2), 0, 1), Noted(newest(2)), NotedPinned(chance(2), 5),
             Line((ONE,)), Line(RECENTS)]
    for one in found[1:4] + found[6:]:
        one.ask(0)
        one.ask(1)
    found += [getattr(errors, name)("words") for name in ("GoesError", "NoRule", "NoThing", "NothingDone")]
    return found + [errors.TooMany(2000), errors.NotNested(5), errors.Pins(3)]


def of_call(call):
    """Return the function, the arguments and what is raised for each of them."""
    return call[0], [part[0] for part in call[1:]], [part[1] for part in call[1:]]


class SessionTest(Case):
    def test_word_for_word(self):
        test = doctest.DocTestParser().get_doctest(SESSION, {}, "session", None, 0)
        found = doctest.DocTestRunner(verbose=False).run(test)
        self.assertEqual((found.attempted, found.failed), (9, 0))


class WholeCase(Case):
    def refuse(self, function, values, raised):
        """A function tells that its arguments are wrong, by an error, or by False."""
        if raised is False:
            self.assertIs(function(*values), False)
            return
        with self.assertRaises(raised) as caught:
            function(*values)
        self.assertIs(type(caught.exception), raised)


class WrongTest(WholeCase):
    def test_good_arguments(self):
        for call in CALLS:
            function, values, raised = of_call(call)
            found = function(*values)
            if raised[-1] is False:
                self.assertIs(found, True)

    def test_objects_in_the_place_of_any_part(self):
        for call in CALLS:
            function, values, raised = of_call(call)
            for at, value in enumerate(values):
                for thing in objects() + [Cache, Line, errors.NoRule]:
                    for wrong in replaced(value, thing):
                        self.refuse(function, values[:at] + [wrong] + values[at + 1:], raised[at])

    def test_objects_within_other_values(self):
        for call in CALLS:
            function, values, raised = of_call(call)
            for at in range(len(values)):
                for thing in objects():
                    deep = thing
                    for number in range(18):
                        deep = ((deep,), [deep], {"a": deep}, (deep, deep))[number % (4 if number < 8 else 3)]
                    for wrong in ([thing], (thing,), (thing, thing), {0: thing}, ((thing,), 0), (2, (thing,)), deep,
                                  (thing, 0), (0, thing), ("ratio", thing), ("nested", (thing,)), (thing,) * 3):
                        self.refuse(function, values[:at] + [wrong] + values[at + 1:], raised[at])

    def test_which_error_comes_first(self):
        for call in CALLS:
            function, values, raised = of_call(call)
            for at in range(len(values)):
                for wrong in ODD + (nested_deep(20), Cache(ONE), "ratio"):
                    # All that stand behind it are wrong, too.
                    self.refuse(function, values[:at] + [wrong] * (len(values) - at), raised[at])

    def test_wrong_calls_change_nothing(self):
        cache, made = NotedPinned(recent(2), 1), Line(RECENTS)
        for one in (cache, made):
            one.ask(1)
            one.ask(2)
        for wrong in ODD + tuple(objects()):
            before = copy.deepcopy((cache, made)), repr((cache, made)), cache.gone, made.counts
            for call in (cache.ask, cache, cache.ask_all, made.ask, made, lambda wrong: cache.ask_all(1, wrong)):
                self.assertRaises(THING, call, wrong)
            self.assertEqual((copy.deepcopy((cache, made)), repr((cache, made)), cache.gone, made.counts), before)


class GeneralTest(WholeCase):
    def test_again_gives_the_same(self):
        for call in CALLS:
            function, values, _ = of_call(call)
            if not isinstance(function, type) and function.__module__ not in ("goesout.caches", "goesout.lines"):
                first = copy.deepcopy(function(*values))
                for other in ODD:
                    try:
                        function(*[other] * len(values))
                    except errors.GoesError:
                        pass
                self.assert_same(function(*values), first)

    def test_nothing_is_modified(self):
        for call in CALLS:
            function, values, _ = of_call(call)
            for thing in objects():
                before = repr(thing), copy.deepcopy(thing)
                for at in range(len(values)):
                    for wrong in (thing, [thing], (thing, thing)):
                        try:
                            function(*values[:at], wrong, *values[at + 1:])
                        except errors.GoesError:
                            pass
                self.assertEqual(repr(thing), before[0])
                if not isinstance(thing, Exception):
                    self.assertTrue(thing == before[1])

    def test_lists_are_no_tuples(self):
        def listed(value):
            found = [list(value)] if isinstance(value, tuple) else []
            for at, part in enumerate(value if isinstance(value, tuple) else ()):
                found += [value[:at] + (other,) + value[at + 1:] for other in listed(part)]
            return found
        for call in CALLS:
            function, values, raised = of_call(call)
            for at, value in enumerate(values):
                for wrong in listed(value):
                    before = copy.deepcopy(wrong)
                    self.refuse(function, values[:at] + [wrong] + values[at + 1:], raised[at])
                    self.assert_same(wrong, before)

    def test_bools_are_no_integers(self):
        def bools(value):
            found = [bool(value)] if value in (0, 1) and type(value) is int else []
            for at, part in enumerate(value if isinstance(value, tuple) else ()):
                found += [value[:at] + (other,) + value[at + 1:] for other in bools(part)]
            return found
        for call in CALLS:
            function, values, raised = of_call(call)
            for at, value in enumerate(values):
                for wrong in bools(value):
                    self.refuse(function, values[:at] + [wrong] + values[at + 1:], raised[at])


class FactsTest(Case):
    RULES = (recent(1), recent(2), queue(2), newest(2), chance(2), tree(2), recent(3), queue(3), newest(3),
             segments(1, 2))

    def test_caches_keep_what_runs_tell(self):
        for rule in self.RULES:
            for requests in itertools.product(range(4), repeat=5):
                cache = Noted(rule)
                self.assertEqual(cache.ask_all(*requests), hits(rule, requests))
                self.assertEqual(len(cache), min(len(set(requests)), rule[0]))
                self.assertEqual(cache.missed, misses(rule, requests))
                self.assertGreaterEqual(cache.missed, fewest(requests, rule[0]))

    def test_nested_families(self):
        for rule_of in (recent, newest):
            rules = family(rule_of, 4)
            self.assertEqual(family_nested(rules), ("nested",))
            for seed in range(10):
                requests = tuple((at * at + seed * at // 3) % 7 for at in range(60))
                made = Line(rules)
                for thing in requests:
                    made.ask(thing)
                    self.assertIs(made.is_nested, True)
                self.assertEqual(made.counts, curve(rules, requests))
                self.assertEqual(list(made.counts), sorted(made.counts, reverse=True))

    def test_texts_of_all_rules(self):
        for rule in self.RULES:
            self.assertEqual(read_rule(rule_text(rule)), rule)
            self.assertEqual(Cache(read_rule(rule_text(rule))), Cache(rule))

    def test_ratios_to_the_best(self):
        # A rule that is alike another one has the same ratios to the best.
        for rule in self.RULES:
            twice = (rule[0], rule[1] * 2)
            for places in range(1, rule[0] + 1):
                self.assertEqual(against(twice, places)[0], against(rule, places)[0])
                if against(rule, places)[0] == "ratio":
                    self.assert_same(against(twice, places)[1], against(rule, places)[1])

    def test_two_levels_and_one(self):
        for requests in itertools.product(range(4), repeat=6):
            found = levels(1, 2, requests)
            self.assertEqual(tuple(level > 0 for level in found), hits(recent(3), requests))


if __name__ == "__main__":
    unittest.main()
