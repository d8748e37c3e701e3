"""Which crews keep every last time, and comings that break one of the others."""

from duetimes.comings import Comings
from duetimes.crews import LIMIT, cost_of, due_of, must_be_crew
from duetimes.errors import Breaks
from duetimes.members import Task, must_be_whole
from duetimes.rule import levels_of, longest_hold

MOST_LONG = 10 ** 6


def demand(crew, long):
    """The most that all works can need that come in a stretch of LONG and are due within it."""
    must_be_crew(crew)
    must_be_whole(long, 1, MOST_LONG)
    # No DUE is above its GAP, so what is not due within LONG counts 0, never less.
    return sum([cost_of(member) * ((long - due_of(member)) // member.gap + 1) for member in crew.members])


def blocking(crew, long):
    """(MOMENTS, NAME, DONE): how long a task due behind LONG can hold up others, which one, served how far."""
    must_be_crew(crew)
    must_be_whole(long, 1, MOST_LONG)
    levels = levels_of(crew)
    most = (0, None, None)
    for member in crew.members:
        if isinstance(member, Task) and member.due > long:
            moments, done = longest_hold(member, levels, long)
            if moments > most[0]:
                most = (moments, member.name, done)
    return most


def too_short(crew, upto):
    """The least LONG, up to UPTO, that is too short for demand and blocking together, or None."""
    dues = [due_of(member) for member in crew.members]
    moments = 0
    for long in range(1, upto + 1):
        # Levels are DUEs: only where LONG comes to one does blocking change.
        if long in dues:
            moments = blocking(crew, long)[0]
        if demand(crew, long) + moments > long:
            return long
    return None


def breaking(crew, long):
    """Comings by which a work is late, of a crew for which LONG is too short."""
    moments, blocker, done = blocking(crew, long)
    start = 0
    rows = []
    if moments > 0:
        # It comes alone, so DONE of its moments have been served just at the point DONE.
        start = done
        rows.append((blocker, 0, None))
    for member in crew.members:
        last = start + long - due_of(member)
        rows += [(member.name, moment, None) for moment in range(start, last + 1, member.gap)]
    return Comings(crew, tuple(rows))


def lets_in(crew, *, most=LIMIT):
    """Tells whether no work can be late, or else the least stretch that is too short and comings that break it."""
    must_be_crew(crew)
    # Behind one stretch of all GAPs demand goes on by the load, so what is wrong is wrong within it.
    long = too_short(crew, crew.stretch(most=most))
    if long is None:
        return ("in",)
    return ("breaks", long, breaking(crew, long))


def must_be_let_in(crew, most):
    """Refuses a crew that isn't let in."""
    told = lets_in(crew, most=most)
    if told[0] == "breaks":
        raise Breaks(told[1], told[2])


def needed_in(crew, long):
    """What all members need, each coming as often as its GAP fits, rounded up, into LONG."""
    return sum([cost_of(member) * ((long - 1) // member.gap + 1) for member in crew.members])


def times_counted(crew, place, coming, other, end):
    """How many works of member OTHER go ahead of a work of member PLACE, or are it, and come ahead of END.

    That work comes COMING points, fewer than END, behind the begin of a stretch without rest. All others come at this
    begin and each GAP again, its own ones each GAP up to it.
    """
    member = crew.members[other]
    last = coming + due_of(crew.members[place]) - due_of(member)
    if other > place:
        # Of those due at once the lesser number goes ahead.
        last -= 1
    # No DUE is above its GAP, so this is 0, never less, where even the first one goes behind.
    return min(last, end - 1) // member.gap + 1


def needed_ahead(crew, place, coming, end):
    """What all works need that are counted so."""
    return sum([
        cost_of(member) * times_counted(crew, place, coming, other, end)
        for other, member in enumerate(crew.members)
    ])
