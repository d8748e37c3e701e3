"""The longest that a work takes, whatever comes."""

from duetimes.comings import Comings
from duetimes.crews import LIMIT, MOST_STRETCH, has_holds, must_be_crew
from duetimes.demand import must_be_let_in, needed_ahead, needed_in, times_counted
from duetimes.errors import NoPlain, TooMuch
from duetimes.members import Door, must_be_whole


def without_rest(crew):
    """How long all members are served without rest that come at once and each GAP again."""
    long = 1
    needed = needed_in(crew, long)
    while needed > long:
        long = needed
        needed = needed_in(crew, long)
    return long


def end_of(crew, place, coming):
    """When a work of member PLACE is ended that comes COMING points behind the begin of such a stretch."""
    end = coming + 1
    needed = needed_ahead(crew, place, coming, end)
    while needed > end:
        end = needed
        needed = needed_ahead(crew, place, coming, end)
    return end


def longest_coming(crew, place):
    """(MOMENTS, COMING): the most points from a coming to its end, the first COMING that takes so many."""
    longest = (0, 0)
    for coming in range(without_rest(crew)):
        moments = end_of(crew, place, coming) - coming
        if moments > longest[0]:
            longest = (moments, coming)
    return longest


def counted_comings(crew, place, coming, end):
    """Comings of just those works that count for a work of member PLACE that comes at COMING and is ended at END."""
    rows = []
    for other, member in enumerate(crew.members):
        times = times_counted(crew, place, coming, other, end)
        first = coming - (times - 1) * member.gap if other == place else 0
        rows += [(member.name, first + time * member.gap, None) for time in range(times)]
    return Comings(crew, tuple(rows))


def must_be_plain(crew):
    """Refuses a crew with holds."""
    if any([has_holds(member) for member in crew.members]):
        raise NoPlain("a task of this crew has holds")


def must_keep_doors(crew, most):
    """Refuses a crew that has a door and isn't let in: there portions may come later than each GAP."""
    if any([isinstance(member, Door) for member in crew.members]):
        must_be_let_in(crew, most)


def worst(crew, name, *, most=LIMIT):
    """(MOMENTS, COMINGS): the most points from a coming to the end of a work of NAME, and comings that take so many."""
    must_be_crew(crew)
    member = crew.named(name)
    must_be_whole(most, 1, MOST_STRETCH)
    must_be_plain(crew)
    top, bottom = crew.load()
    if top > bottom:
        raise TooMuch((top, bottom))
    # Asked for its refusal alone.
    crew.stretch(most=most)
    must_keep_doors(crew, most)
    place = crew.names().index(member.name)
    moments, coming = longest_coming(crew, place)
    return (moments, counted_comings(crew, place, coming, coming + moments))
