"""The rule: which of the works that wait is served."""

from duetimes.crews import cost_of, due_of, must_be_crew
from duetimes.errors import NoWorks
from duetimes.members import Task, is_name, is_whole

MOST_COMES = 10 ** 12


class Work:
    """A work of a member (a portion, of a door), DONE moments of which have been served."""

    def __init__(self, member, place, number, comes, *, need, done=0):
        self.member = member
        self.place = place
        self.number = number
        self.comes = comes
        self.due = comes + due_of(member)
        self.need = need
        self.done = done
        self.begins = None
        self.ends = None


def turn(work):
    """What tells which of two works goes ahead: the one with the lesser turn."""
    return (work.due, work.place, work.comes)


def levels_of(crew):
    """The level of each tool of a crew."""
    tasks = [member for member in crew.members if isinstance(member, Task)]
    return {hold[0]: crew.level(hold[0]) for task in tasks for hold in task.holds}


def least_level(work, levels):
    """The least level of the tools that a work holds, or None."""
    if not isinstance(work.member, Task):
        return None
    return min([levels[tool] for tool in work.member.held(work.done)], default=None)


def is_held_up(work, begun, levels):
    """Whether a work is held up by those that are begun."""
    if work.done != 0:
        return False
    found = [least_level(other, levels) for other in begun]
    return any([level is not None and level <= due_of(work.member) for level in found])


def choose(works, levels):
    """Which of some works is served, and the first of them where this is held up, else None."""
    first = min(works, key=turn)
    begun = [work for work in works if work.done != 0]
    if is_held_up(first, begun, levels):
        return (min(begun, key=turn), first)
    return (first, None)


def longest_hold(task, levels, most):
    """How many DONEs one behind the other, at most, a task holds tools of levels up to MOST; the first of them."""
    longest = 0
    first = None
    many = 0
    for done in range(task.cost):
        holds = any([levels[tool] <= most for tool in task.held(done)])
        many = many + 1 if holds else 0
        if many > longest:
            longest = many
            first = done - many + 1
    return (longest, first)


def is_waiting(crew, thing):
    """Whether a thing of any kind is a work by itself."""
    if not isinstance(thing, tuple) or len(thing) != 3:
        return False
    name, comes, done = thing
    if not is_name(name) or name not in crew.names():
        return False
    return is_whole(comes, 0, MOST_COMES) and is_whole(done, 0, cost_of(crew.named(name)) - 1)


def wrong_work(crew, works):
    """The place of the first work that isn't so by itself or by those ahead, or None."""
    ahead = {}
    for place, work in enumerate(works):
        if not is_waiting(crew, work) or (work[0], work[1]) in ahead:
            return place
        ahead[(work[0], work[1])] = True
    return None


def served(crew, works):
    """(NUMBER, HELD): which work is served, and the first one where this is held up; None of no works."""
    must_be_crew(crew)
    if not isinstance(works, tuple):
        raise NoWorks(None)
    wrong = wrong_work(crew, works)
    if wrong is not None:
        raise NoWorks(wrong)
    if not works:
        return None
    names = crew.names()
    waiting = [
        Work(crew.named(name), names.index(name), number, comes, need=cost_of(crew.named(name)), done=done)
        for number, (name, comes, done) in enumerate(works)
    ]
    work, held = choose(waiting, levels_of(crew))
    return (work.number, None if held is None else held.number)
