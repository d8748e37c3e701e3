"""The house's papers: for each question the claim that is true, with its paper."""

from duetimes.crews import LIMIT
from duetimes.demand import lets_in
from duetimes.greatest import greatest_cost, spare_name, with_task
from duetimes.holding import held_up
from duetimes.members import MOST_COST, Door
from duetimes.runs import played
from duetimes.worst import end_of, without_rest, worst


def member_row(member):
    """A member as a row of a claim."""
    if isinstance(member, Door):
        return ("door", member.name, member.room, member.gap)
    return ("task", member.name, member.cost, member.gap, member.due, member.holds)


def crew_rows(crew):
    """A crew as claims tell it."""
    return tuple([member_row(member) for member in crew.members])


def paper_in(crew, *, most=LIMIT):
    """That a crew is let in, or that it breaks."""
    told = lets_in(crew, most=most)
    if told[0] == "breaks":
        return (("breaks", crew_rows(crew)), told[2].rows)
    return (("in", crew_rows(crew)), crew.stretch(most=most))


def paper_within(crew, name, *, most=LIMIT):
    """That no work of NAME takes longer than its worst."""
    moments = worst(crew, name, most=most)[0]
    place = crew.names().index(name)
    long = without_rest(crew)
    ends = tuple([end_of(crew, place, coming) for coming in range(long)])
    return (("within", crew_rows(crew), name, moments), (long, ends))


def paper_as_long(crew, name, *, most=LIMIT):
    """That a work of NAME takes as long as its worst."""
    moments, comings = worst(crew, name, most=most)
    return (("as long", crew_rows(crew), name, moments), comings.rows)


def paper_held_up(comings, name):
    """That a work of NAME is held up for so long by these comings, the longest of them; None where none is."""
    run = played(comings)
    member = comings.crew.named(name)
    times = [moments for own, number, by, other, moments in held_up(run) if own == member.name]
    if not times:
        return None
    return (("held up", crew_rows(comings.crew), member.name, max(times)), comings.rows)


def paper_greatest(crew, gap, *, due=None, most=LIMIT):
    """That a COST is the greatest with which one task more, of this GAP and DUE, is let in."""
    cost = greatest_cost(crew, gap, due=due, most=most)
    last = gap if due is None else due
    # All GAPs divide the stretch with one more, so it is a limit for the crew alone, too.
    limit = with_task(crew, 1, gap, last).stretch(most=most)
    rows = None
    if cost < MOST_COST:
        rows = lets_in(with_task(crew, cost + 1, gap, last), most=most)[2].rows
    return (("greatest", crew_rows(crew), gap, last, cost), (spare_name(crew), limit, rows))


def paper_run(comings):
    """What is served when by comings."""
    run = played(comings)
    return (("run", crew_rows(comings.crew), comings.rows, run.pieces), None)
