"""Tests of goesout.texts: points 2, 3 and 95."""

import unittest

from goesout.errors import NoRule, NoText
from goesout.named import chance, newest, queue, segments, tree
from goesout.texts import read_rule, rule_text
from tests.samples import LATE_PAIRS, MIXED, ODD, ONE, RECENT_2, RULES, WIDE, Case, made_rule, nested_deep, replaced

MANY_RULES = RULES + (chance(1), chance(3), chance(4), tree(1), tree(4), queue(4), newest(4), segments(1, 3)) + tuple(
    rule for pair in LATE_PAIRS for rule in pair) + tuple(
    made_rule(places, many, seed) for places in range(1, 5) for many in (1, 2, 9, 10, 11, 16) for seed in range(3))
RECENT_TEXT = "places 2\nout 1\nhit 0 1 to 0\nhit 1 0 to 0\ncome 0 1 to 0\ncome 1 0 to 0\n"
MIXED_TEXT = """\
places 3
out 1
hit 1 2 0 to 1
hit 2 0 1 to 0
hit 0 1 2 to 2
come 2 0 1 to 2
come 0 1 2 to 1
come 1 2 0 to 0
out 2
hit 0 1 2 to 0
hit 1 2 0 to 2
hit 0 2 1 to 1
come 1 2 0 to 1
come 2 0 1 to 0
come 2 1 0 to 2
out 0
hit 2 0 1 to 2
hit 1 0 2 to 1
hit 1 2 0 to 0
come 0 2 1 to 0
come 1 2 0 to 2
come 0 1 2 to 1
"""


def slow_text(rule):
    """Return the text of a rule, found by another way than in the program."""
    text = "places " + str(rule[0]) + "\n"
    for row in rule[1]:
        text += "out " + str(row[1]) + "\n"
        for word, moves in (("hit ", row[0]), ("come ", row[2])):
            for move in moves:
                text += word + "".join(str(place) + " " for place in move[0]) + "to " + str(move[1]) + "\n"
    return text


class RuleTextTest(Case):
    def test_by_hand(self):
        self.assert_same(rule_text(RECENT_2), RECENT_TEXT)
        self.assert_same(rule_text(ONE), "places 1\nout 0\nhit 0 to 0\ncome 0 to 0\n")
        self.assert_same(rule_text(MIXED), MIXED_TEXT)

    def test_all_rules(self):
        for rule in MANY_RULES:
            self.assert_same(rule_text(rule), slow_text(rule))

    def test_different_rules_have_different_texts(self):
        self.assertEqual(len({rule_text(rule) for rule in MANY_RULES}), len(set(MANY_RULES)))

    def test_no_rule(self):
        for value in ODD + (nested_deep(20), RECENT_TEXT, [2, RECENT_2[1]]):
            self.assertRaises(NoRule, rule_text, value)
        for value in replaced(RECENT_2, True) + replaced(MIXED, False):
            self.assertRaises(NoRule, rule_text, value)


class ReadRuleTest(Case):
    def test_there_and_back(self):
        for rule in MANY_RULES:
            self.assert_same(read_rule(rule_text(rule)), rule)
            self.assert_same(rule_text(read_rule(slow_text(rule))), slow_text(rule))
        self.assert_same(read_rule(MIXED_TEXT), MIXED)

    def refuse(self, texts):
        for text in texts:
            with self.assertRaises(NoText, msg=repr(text)):
                read_rule(text)

    def check(self, text):
        """What is the text of a rule gives this rule, and what is not is refused."""
        if slow_reads(text):
            self.assert_same(slow_text(read_rule(text)), text)
        else:
            self.refuse([text])

    def test_other_values(self):
        self.refuse(ODD + (nested_deep(20), RECENT_2, [RECENT_TEXT], (RECENT_TEXT,), RECENT_TEXT.encode(), MIXED,
                           RECENT_TEXT.split("\n"), NoText("words"), rule_text, str))

    def test_lines_left_out_twice_or_in_another_order(self):
        for rule in (ONE, RECENT_2, MIXED, chance(2)):
            lines = rule_text(rule).splitlines(keepends=True)
            for at, line in enumerate(lines):
                self.refuse(["".join(lines[:at] + lines[at + 1:]), "".join(lines[:at] + [line] + lines[at:])])
                if at > 0:
                    self.refuse(["".join(lines[:at]), "".join(lines[at:])])
                for other in range(at):
                    moved = list(lines)
                    moved[at], moved[other] = lines[other], line
                    self.check("".join(moved))
                    # Only lines that begin alike may change places.
                    self.assertEqual(slow_reads("".join(moved)), lines[other].split()[0] == line.split()[0])

    def test_moves_in_another_order_are_another_rule(self):
        lines = RECENT_TEXT.splitlines(keepends=True)
        text = "".join(lines[:2] + lines[3:1:-1] + lines[4:])
        hits, out, comes = RECENT_2[1][0]
        self.assert_same(read_rule(text), (2, ((hits[::-1], out, comes),)))

    def test_signs_left_out_or_added(self):
        for text in (RECENT_TEXT, MIXED_TEXT, rule_text(chance(1))):
            for at in range(len(text) + 1):
                self.check(text[:at] + text[at + 1:])
                for sign in " \n0123+-_\t\r.x,\u0663\u00b2\u00a0\u3000\x00\x0b\x1c":
                    self.check(text[:at] + sign + text[at:])

    def test_other_signs_in_the_place_of_one(self):
        for text in (RECENT_TEXT, MIXED_TEXT):
            for at in range(len(text)):
                for sign in " \n+-0123459ahotT\u0661":
                    self.check(text[:at] + sign + text[at + 1:])

    def test_blanks_and_line_feeds(self):
        self.refuse(["", " ", "\n", "\n\n", RECENT_TEXT[:-1], RECENT_TEXT + "\n", "\n" + RECENT_TEXT,
                     " " + RECENT_TEXT, RECENT_TEXT + " ", RECENT_TEXT.replace("\n", "\r\n"),
                     RECENT_TEXT.replace("\n", " \n"), RECENT_TEXT.replace("\n", "\n "), RECENT_TEXT.upper(),
                     RECENT_TEXT.replace(" ", "  "), RECENT_TEXT.replace(" ", "\t"), RECENT_TEXT.replace("\n", "\r"),
                     RECENT_TEXT.replace("\n", "\n\n"), RECENT_TEXT.replace("\n", "\x0b"), RECENT_TEXT * 2])

    def test_numbers(self):
        # 01 and 1 are the same number, but only one is how it is written.
        for number in ("01", "001", "+1", "-1", "1.", "1e0", "0x1", "1_0", "\u0661", "\uff11", "one", "", "2",
                       "10" * 50, "1" * 3900, "True"):
            self.refuse([RECENT_TEXT.replace("out 1", "out " + number)])
            if number != "2":
                self.refuse([RECENT_TEXT.replace("hit 1", "hit " + number), RECENT_TEXT.replace("s 2", "s " + number)])
        for number in ("00", "-0", "+0", "1", "16", "-1", "\u0660"):
            self.refuse([RECENT_TEXT.replace("to 0", "to " + number)])
        self.refuse([RECENT_TEXT.replace("hit 0 1 to 0", "hit 0 1 to 00"), RECENT_TEXT.replace("2\n", "02\n")])

    def test_places_and_labels(self):
        self.refuse(["places 0\n", "places 5\n", "places 2\n", "places 1\n" + "out 0\nhit 0 to 0\ncome 0 to 0\n" * 17,
                     RECENT_TEXT.replace("places 2", "places 1"), RECENT_TEXT.replace("places 2", "places 3"),
                     "places 5\nout 0\n" + "hit 0 1 2 3 4 to 0\n" * 5 + "come 0 1 2 3 4 to 0\n" * 5,
                     "places 0\nout 0\n", RECENT_TEXT[9:], "places 2 2" + RECENT_TEXT[8:], "places" + RECENT_TEXT[8:]])
        text = "places 1\n" + "out 0\nhit 0 to 0\ncome 0 to 0\n" * 16
        self.assert_same(read_rule(text), (1, ONE[1] * 16))

    def test_long_texts(self):
        self.assertGreater(len(rule_text(WIDE)), 2000)
        self.refuse(["x" * 4000, "\n" * 4000, " " * 4001, "places 2\n" + "out 1\n" * 800, "1" * 100000, "1 " * 3000,
                     "places 2\n" * 2000, RECENT_TEXT + " " * 4000, rule_text(WIDE) * 2,
                     "places 1\n" + "out 0\n" * 5000])

    def test_words(self):
        for word, others in (("places", ("place", "Places", "out", "")), ("out", ("in", "outs", "Out", "hit", "")),
                             ("hit", ("come", "hits", "HIT", "")), ("come", ("hit", "comes", "")),
                             ("to", ("in", "0", ""))):
            for other in others:
                self.refuse([RECENT_TEXT.replace(word, other), RECENT_TEXT.replace(word, other, 1),
                             RECENT_TEXT.replace(word + " ", other)])


def slow_reads(text):
    """Tell whether a text is that of a rule, by its lines one after another."""
    lines = text.split("\n")
    if lines.pop() != "" or lines[0] not in ("places 1", "places 2", "places 3", "places 4"):
        return False
    places, rows = int(lines[0][-1]), lines[1:]
    size = 1 + 2 * places
    many = len(rows) // size
    if len(rows) != many * size or not 1 <= many <= 16:
        return False
    numbers = [str(number) for number in range(16)]
    for at, line in enumerate(rows):
        if at % size == 0:
            if line not in ["out " + number for number in numbers[:places]]:
                return False
            continue
        words = line.split(" ")
        if words[0] != ("hit" if at % size <= places else "come") or len(words) != places + 3:
            return False
        if sorted(words[1:-2]) != numbers[:places] or words[-2] != "to" or words[-1] not in numbers[:many]:
            return False
    return True


class GeneralTest(Case):
    def test_by_name(self):
        self.assertEqual(rule_text(rule=RECENT_2), RECENT_TEXT)
        self.assertEqual(read_rule(text=RECENT_TEXT), RECENT_2)

    def test_nothing_is_modified(self):
        for value in ODD + (RECENT_2, list(RECENT_2), [RECENT_TEXT], nested_deep(20)):
            self.assert_unmodified(value, (lambda: rule_text(value), lambda: read_rule(value)))

    def test_again_gives_the_same(self):
        for rule in MANY_RULES:
            first = rule_text(rule)
            self.assertRaises(NoText, read_rule, first[1:])
            self.assert_same((rule_text(rule), read_rule(first)), (first, rule))


if __name__ == "__main__":
    unittest.main()
