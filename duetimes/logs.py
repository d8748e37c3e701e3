"""Logs of gates: reads them, and tells whether a gate would keep them."""

from duetimes.crewtexts import are_figures, is_figures, member_of_row, must_be_text, number_of
from duetimes.errors import FullError, LostError, NoText, TimeError
from duetimes.gates import Gate
from duetimes.members import is_name

DEEDS = ("let", "leave", "come")


def served_row(point, words):
    """The row of a piece, of its words behind `serve`, or None."""
    if len(words) != 3 or not is_name(words[0]) or not are_figures(words[1:]):
        return None
    name, number, end = (words[0], number_of(words[1]), number_of(words[2]))
    return (point, "serve", name, number, end) if end > point else None


def row_of(point, word, words):
    """The row of a log that starts with a point and a word, of the words behind these, or None."""
    if word == "let":
        member = member_of_row(" ".join(words))
        return None if member is None else (point, word, member)
    if word == "leave" and len(words) == 1 and is_name(words[0]):
        return (point, word, words[0])
    if word == "come" and len(words) == 2 and is_name(words[0]) and is_figures(words[1]):
        return (point, word, words[0], number_of(words[1]))
    if word == "serve":
        return served_row(point, words)
    if word == "end" and words == []:
        return (point, word)
    return None


def log_row(text):
    """The row that one row of a log tells, or None."""
    words = text.split(" ")
    if len(words) < 2 or not is_figures(words[0]):
        return None
    return row_of(number_of(words[0]), words[1], words[2:])


def read_log(text):
    """The tuple of the rows (POINT, WORD, ..) of a log."""
    must_be_text(text)
    texts = text.split("\n")
    rows = []
    for number, row in enumerate([log_row(part) for part in texts]):
        # The end is in the last one alone.
        if row is None or (row[1] == "end" and number < len(texts) - 1):
            raise NoText(number)
        rows.append(row)
    if rows[-1][1] != "end":
        raise NoText(len(rows))
    return tuple(rows)


def first_unlike(rows, others):
    """The number of the first row that isn't the one of the others, or that one of both lacks; None of the same."""
    for number, (row, other) in enumerate(zip(rows, others)):
        if row != other:
            return number
    if len(rows) == len(others):
        return None
    return min(len(rows), len(others))


def is_refused(gate, deed):
    """Whether a gate refuses a deed; else it is done."""
    try:
        gate.carry_out(deed)
    except (TimeError, LostError, FullError):
        return True
    return False


def kept(rows):
    """None where a new gate, told the deeds of a log, has just these rows; else the number of the first it hasn't."""
    gate = Gate()
    sure = 0
    for number, row in enumerate(rows):
        if row[1] not in DEEDS:
            continue
        gate.go_to(row[0])
        # What it served on its way, and no more, must stand ahead of the deed.
        unlike = first_unlike(rows[sure:number], gate.rows[sure:])
        if unlike is not None:
            return sure + unlike
        if row[0] < gate.point() or is_refused(gate, row[1:]):
            return number
        sure = number
    if rows and rows[-1][1] == "end":
        gate.go_to(rows[-1][0])
    return first_unlike(rows, (*gate.rows, (gate.point(), "end")))
