"""The checker: takes a claim with its paper, or doesn't."""

from duetimes.comings import Comings, are_rows, wrong_row
from duetimes.crews import Crew, added, are_members, cost_of, due_of, has_holds, name_twice
from duetimes.demand import needed_ahead, needed_in, too_short
from duetimes.holding import held_up
from duetimes.members import (
    MOST_COST, Door, Task, is_name, is_number, is_whole, wrong_in_door, wrong_in_task,
)
from duetimes.runs import played

MOST_LIMIT = 5000
MOST_BEFORE = 7


def task_of(name, cost, gap, due, spans):
    """The task that such parts, of any kind, make, or None; DUE must be told."""
    if due is None or wrong_in_task(name, cost, gap, due, spans) is not None:
        return None
    return Task(name, cost, gap, due=due, holds=spans)


def member_of(thing):
    """The member that a thing of any kind tells as a row of a claim, or None."""
    if not isinstance(thing, tuple) or len(thing) == 0 or not isinstance(thing[0], str):
        return None
    if thing[0] == "task" and len(thing) == 6:
        word, name, cost, gap, due, spans = thing
        return task_of(name, cost, gap, due, spans)
    if thing[0] == "door" and len(thing) == 4:
        word, name, room, gap = thing
        return Door(name, room, gap) if wrong_in_door(name, room, gap) is None else None
    return None


def crew_of(thing):
    """The crew that a thing of any kind tells in a claim, or None."""
    if not isinstance(thing, tuple):
        return None
    members = tuple([member_of(row) for row in thing])
    if not are_members(members) or name_twice(members) is not None:
        return None
    return Crew(members)


def run_of(crew, rows):
    """The run by rows of any kind, or None where they make no comings; each NEED must be told."""
    if not are_rows(rows) or wrong_row(crew, rows) is not None or any([row[2] is None for row in rows]):
        return None
    return played(Comings(crew, rows))


def is_kept_behind(crew, limit):
    """Whether no stretch above LIMIT is too short where none up to it is, but for blocking."""
    if all([limit % member.gap == 0 for member in crew.members]):
        return True
    point = limit + 1
    top, bottom = added([
        (cost_of(member) * (point + member.gap - due_of(member)), member.gap)
        for member in crew.members
    ])
    return top <= point * bottom


def is_in(crew, limit):
    """Whether a thing of any kind is a paper that a crew is let in."""
    if not is_whole(limit, 1, MOST_LIMIT):
        return False
    top, bottom = crew.load()
    if top > bottom or any([due_of(member) > limit + 1 for member in crew.members]):
        return False
    return is_kept_behind(crew, limit) and too_short(crew, limit) is None


def is_broken(crew, rows):
    """Whether things of any kind are rows by which, played, a work is late."""
    run = run_of(crew, rows)
    return run is not None and len(run.late()) > 0


def takes_in(claim, paper):
    """("in", CREW)."""
    crew = crew_of(claim[1])
    return crew is not None and is_in(crew, paper)


def takes_breaks(claim, paper):
    """("breaks", CREW)."""
    crew = crew_of(claim[1])
    return crew is not None and is_broken(crew, paper)


def crew_with(claim):
    """The crew of (WORD, CREW, NAME, MOMENTS), or None, also where NAME or MOMENTS isn't so."""
    word, rows, name, moments = claim
    crew = crew_of(rows)
    if crew is None or not is_name(name) or name not in crew.names():
        return None
    return crew if is_number(moments) and moments >= 1 else None


def is_end(crew, place, coming, end, moments):
    """Whether a thing of any kind is a point, within MOMENTS, by which all is served that counts for a coming."""
    if not is_number(end) or not coming < end <= coming + moments:
        return False
    return needed_ahead(crew, place, coming, end) <= end


def takes_within(claim, paper):
    """("within", CREW, NAME, MOMENTS)."""
    crew = crew_with(claim)
    if crew is None or any([has_holds(member) for member in crew.members]):
        return False
    if not isinstance(paper, tuple) or len(paper) != 2:
        return False
    long, ends = paper
    if not is_whole(long, 1, MOST_LIMIT) or needed_in(crew, long) > long:
        return False
    if not isinstance(ends, tuple) or len(ends) != long:
        return False
    place = crew.names().index(claim[2])
    return all([is_end(crew, place, coming, end, claim[3]) for coming, end in enumerate(ends)])


def times_taken(run):
    """(NAME, MOMENTS) of each work of a run that was played to its end: how long behind its coming it was ended."""
    return [(name, ends - comes) for name, number, comes, due, begins, ends in run.works]


def times_held_up(run):
    """(NAME, MOMENTS) of each work of a run that was held up."""
    return [(name, moments) for name, number, by, other, moments in held_up(run)]


def is_reached(claim, times):
    """Whether one of some (NAME, MOMENTS) is of the claim's NAME and as long as its MOMENTS, or longer."""
    return any([name == claim[2] and moments >= claim[3] for name, moments in times])


def takes_as_long(claim, paper):
    """("as long", CREW, NAME, MOMENTS)."""
    crew = crew_with(claim)
    run = None if crew is None else run_of(crew, paper)
    return run is not None and is_reached(claim, times_taken(run))


def takes_held_up(claim, paper):
    """("held up", CREW, NAME, MOMENTS)."""
    crew = crew_with(claim)
    run = None if crew is None else run_of(crew, paper)
    return run is not None and is_reached(claim, times_held_up(run))


def takes_greatest(claim, paper):
    """("greatest", CREW, GAP, DUE, COST)."""
    word, rows, gap, due, cost = claim
    crew = crew_of(rows)
    if crew is None or len(crew) > MOST_BEFORE or not is_whole(cost, 0, MOST_COST):
        return False
    if not isinstance(paper, tuple) or len(paper) != 3:
        return False
    name, limit, broken = paper
    # Of COST 1 it is a task just where NAME, GAP and DUE are so.
    if task_of(name, 1, gap, due, ()) is None or name in crew.names():
        return False
    kept = crew if cost == 0 else crew.with_member(Task(name, cost, gap, due=due))
    if not is_in(kept, limit):
        return False
    if cost == MOST_COST:
        return broken is None
    return is_broken(crew.with_member(Task(name, cost + 1, gap, due=due)), broken)


def is_piece(thing):
    """Whether a thing of any kind has the kinds of a piece."""
    if not isinstance(thing, tuple) or len(thing) != 4:
        return False
    start, end, name, number = thing
    return is_number(start) and is_number(end) and isinstance(name, str) and is_number(number)


def takes_run(claim, paper):
    """("run", CREW, ROWS, PIECES)."""
    word, members, rows, pieces = claim
    crew = crew_of(members)
    run = None if crew is None else run_of(crew, rows)
    if run is None or paper is not None or not isinstance(pieces, tuple):
        return False
    return all([is_piece(piece) for piece in pieces]) and pieces == run.pieces


# How many parts the claims of each word have, and what takes them.
PARTS = {"in": 2, "breaks": 2, "within": 4, "as long": 4, "held up": 4, "greatest": 5, "run": 4}
TAKES = {
    "in": takes_in,
    "breaks": takes_breaks,
    "within": takes_within,
    "as long": takes_as_long,
    "held up": takes_held_up,
    "greatest": takes_greatest,
    "run": takes_run,
}


def holds(claim, paper):
    """Whether a claim is taken with its paper, of things of any kind."""
    if not isinstance(claim, tuple) or len(claim) == 0 or not isinstance(claim[0], str):
        return False
    word = claim[0]
    if word not in PARTS or len(claim) != PARTS[word]:
        return False
    takes = TAKES[word]
    return takes(claim, paper)
