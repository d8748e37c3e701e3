"""Crews as texts: reads what `str` of a crew tells."""

from duetimes.crews import MOST_MEMBERS, Crew
from duetimes.errors import NoText
from duetimes.members import Door, Task, wrong_in_door, wrong_in_task

FIGURES = "0123456789"
TASK_WORDS = 5
HOLD_WORDS = 3
DOOR_WORDS = 4


def is_figures(word):
    """Whether a word is a number: figures without noughts ahead but 0 itself."""
    if word == "" or (word[0] == "0" and word != "0"):
        return False
    return all([sign in FIGURES for sign in word])


def are_figures(words):
    """Whether each of some words is a number."""
    return all([is_figures(word) for word in words])


def number_of(word):
    """The number that a word of figures tells."""
    # Figure by figure: Python itself reads no text of some thousand figures as a number.
    number = 0
    for figure in word:
        number = number * 10 + FIGURES.index(figure)
    return number


def must_be_text(thing):
    """Refuses what is no text."""
    if not isinstance(thing, str):
        raise NoText(0)


def holds_of(words):
    """The holds that words tell, by threes, or None where what should be a number isn't."""
    found = []
    for at in range(0, len(words), HOLD_WORDS):
        tool, start, long = words[at:at + HOLD_WORDS]
        if not are_figures([start, long]):
            return None
        found.append((tool, number_of(start), number_of(long)))
    return tuple(found)


def task_of_words(words):
    """The task that the words of a row tell, or None."""
    if len(words) < TASK_WORDS or (len(words) - TASK_WORDS) % HOLD_WORDS != 0 or not are_figures(words[2:TASK_WORDS]):
        return None
    spans = holds_of(words[TASK_WORDS:])
    cost, gap, due = [number_of(word) for word in words[2:TASK_WORDS]]
    if spans is None or wrong_in_task(words[1], cost, gap, due, spans) is not None:
        return None
    return Task(words[1], cost, gap, due=due, holds=spans)


def door_of_words(words):
    """The door that the words of a row tell, or None."""
    if len(words) != DOOR_WORDS or not are_figures(words[2:]):
        return None
    room, gap = [number_of(word) for word in words[2:]]
    if wrong_in_door(words[1], room, gap) is not None:
        return None
    return Door(words[1], room, gap)


def member_of_row(row):
    """The member that a row tells, or None."""
    words = row.split(" ")
    if words[0] == "task":
        return task_of_words(words)
    if words[0] == "door":
        return door_of_words(words)
    return None


def read_crew(text):
    """The crew that a text tells, a member in each row."""
    must_be_text(text)
    members = []
    # Without a sign there is no row at all, and not one empty row.
    rows = text.split("\n") if text != "" else []
    for number, row in enumerate(rows):
        member = member_of_row(row)
        if member is None or len(members) == MOST_MEMBERS or member.name in [own.name for own in members]:
            raise NoText(number)
        members.append(member)
    return Crew(tuple(members))
