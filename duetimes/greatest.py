"""The greatest cost, and the least due, with which one task more is let in."""

from duetimes.crews import LIMIT, MOST_MEMBERS, MOST_STRETCH, must_be_crew
from duetimes.demand import must_be_let_in, too_short
from duetimes.errors import TooMany
from duetimes.members import LETTERS, MOST_COST, MOST_GAP, Task, must_be_whole


def with_one_more(crew, member):
    """A crew with one member more, of another name; one of eight is refused."""
    if len(crew) == MOST_MEMBERS:
        raise TooMany(MOST_MEMBERS + 1, MOST_MEMBERS)
    return crew.with_member(member)


def spare_name(crew):
    """A name that no member has."""
    return [letter for letter in LETTERS if letter not in crew.names()][0]


def with_task(crew, cost, gap, due):
    """A crew with one task more, without holds."""
    return with_one_more(crew, Task(spare_name(crew), cost, gap, due=due))


def is_let_in_with(crew, cost, gap, due):
    """Whether a crew with one task more is let in, its stretch being no matter."""
    more = with_task(crew, cost, gap, due)
    return too_short(more, more.stretch(most=MOST_STRETCH)) is None


def must_have_place(crew, gap, most):
    """Refuses a crew that has no place for one task more of this GAP, or isn't let in itself."""
    # How much it costs, and when it is due, is nothing to a stretch.
    with_task(crew, 1, gap, gap).stretch(most=most)
    must_be_let_in(crew, most)


def greatest_cost(crew, gap, *, due=None, most=LIMIT):
    """The greatest COST with which one task more, of this GAP and DUE, is let in; 0 where none is."""
    must_be_crew(crew)
    must_be_whole(gap, 1, MOST_GAP)
    if due is not None:
        must_be_whole(due, 1, gap)
    must_be_whole(most, 1, MOST_STRETCH)
    must_have_place(crew, gap, most)
    last = gap if due is None else due
    # A task that costs more is never let in where one that costs less isn't.
    low = 0
    high = MOST_COST
    while low < high:
        middle = (low + high + 1) // 2
        if is_let_in_with(crew, middle, gap, last):
            low = middle
        else:
            high = middle - 1
    return low


def least_due(crew, cost, gap, *, most=LIMIT):
    """The least DUE with which one task more, of this COST and GAP, is let in; None where none is."""
    must_be_crew(crew)
    must_be_whole(cost, 1, MOST_COST)
    must_be_whole(gap, 1, MOST_GAP)
    must_be_whole(most, 1, MOST_STRETCH)
    must_have_place(crew, gap, most)
    if not is_let_in_with(crew, cost, gap, gap):
        return None
    # A task that is due later is always let in where one that is due sooner is.
    low = 1
    high = gap
    while low < high:
        middle = (low + high) // 2
        if is_let_in_with(crew, cost, gap, middle):
            high = middle
        else:
            low = middle + 1
    return low
