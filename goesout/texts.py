"""Rules as texts, and back."""

from goesout.errors import NoText
from goesout.rules import check_rule, is_rule


def rule_text(rule):
    """Return the text of a rule."""
    check_rule(rule)
    places, labels = rule
    lines = [f"places {places}"]
    for hits, out, comes in labels:
        lines.append(f"out {out}")
        lines.extend([move_line("hit", move) for move in hits])
        lines.extend([move_line("come", move) for move in comes])
    return "".join([line + "\n" for line in lines])


def move_line(word, move):
    """Return the line of a move, without its line feed."""
    order, label = move
    return " ".join([word] + [str(place) for place in order]) + f" to {label}"


def read_rule(text):
    """Return the rule with exactly this text."""
    if not isinstance(text, str):
        raise NoText("this is no text")
    rule = rule_in([numbers_in(line) for line in text.split("\n")])
    # Only the numbers were looked at, so all else has to be as the rule is written.
    if not is_rule(rule) or rule_text(rule) != text:
        raise NoText("this is not the text of a rule")
    return rule


def numbers_in(line):
    """Return a list of the numbers of one or two digits in a line, from left to right."""
    return [int(word) for word in line.split(" ") if word.isdecimal() and len(word) <= 2]


def rule_in(rows):
    """Return the rule that has these numbers in its lines, or something that is no rule."""
    # Behind the last line feed stands nothing.
    if len(rows[0]) != 1 or rows[-1] != []:
        return None
    places, lines = rows[0][0], rows[1:-1]
    size = 1 + 2 * places
    return (places, tuple([label_row_in(lines[at:at + size], places) for at in range(0, len(lines), size)]))


def label_row_in(lines, places):
    """Return the label row that has these numbers in its lines, or something that is none."""
    if len(lines[0]) != 1 or [] in lines:
        return None
    moves = [(tuple(numbers[:-1]), numbers[-1]) for numbers in lines[1:]]
    return (tuple(moves[:places]), lines[0][0], tuple(moves[places:]))
