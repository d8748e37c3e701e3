"""Comings as texts."""

from duetimes.comings import MOST_ROWS, Comings, wrong_row
from duetimes.crews import must_be_crew
from duetimes.crewtexts import are_figures, must_be_text, number_of
from duetimes.errors import NoText
from duetimes.members import is_whole

MOST_TIMES = 999


def words_of(row):
    """The words of a row, blanks being ahead, between and behind them."""
    return [word for word in row.split(" ") if word != ""]


def repeated(crew, name, start, times):
    """The rows of a member that comes so many times, GAP apart; None where there are none such."""
    if name not in crew.names() or not is_whole(times, 1, MOST_TIMES):
        return None
    gap = crew.named(name).gap
    return [(name, start + time * gap, None) for time in range(times)]


def rows_of(crew, words):
    """The rows that the words of one row tell, be they right or not; None where these are no such words."""
    if words == [] or words[0].startswith("#"):
        return []
    if len(words) == 4 and words[0] == "every" and are_figures(words[2:]):
        return repeated(crew, words[1], number_of(words[2]), number_of(words[3]))
    if len(words) in (2, 3) and are_figures(words[1:]):
        return [(words[0], number_of(words[1]), number_of(words[2]) if len(words) == 3 else None)]
    return None


def read_comings(crew, text):
    """The comings to a crew that a text tells."""
    must_be_crew(crew)
    must_be_text(text)
    rows = []
    numbers = []
    refused = None
    for number, words in enumerate([words_of(row) for row in text.split("\n")]):
        more = rows_of(crew, words)
        if more is None or len(rows) + len(more) > MOST_ROWS:
            refused = number
            break
        rows += more
        numbers += [number for row in more]
    # One of those ahead of it may be wrong by itself, or too near to another.
    wrong = wrong_row(crew, tuple(rows))
    if wrong is not None:
        raise NoText(numbers[wrong])
    if refused is not None:
        raise NoText(refused)
    return Comings(crew, tuple(rows))
