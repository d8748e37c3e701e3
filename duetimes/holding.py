"""Who holds which tool in a run, and who is held up by whom."""

from duetimes.crews import due_of, must_be_crew
from duetimes.errors import NoRun
from duetimes.members import Task, must_be_whole
from duetimes.rule import levels_of, longest_hold
from duetimes.runs import Run


def must_be_run(thing):
    """Refuses what is no run."""
    if not isinstance(thing, Run):
        raise NoRun("this is no run")


def served_ahead(run, point):
    """How many moments of each work, by (NAME, NUMBER), were served ahead of a point."""
    done = {}
    for start, end, name, number in run.pieces:
        if start < point:
            done[(name, number)] = done.get((name, number), 0) + min(end, point) - start
    return done


def holders(run, point):
    """The rising tuple of (TOOL, NAME, NUMBER) held at a point by works that wait there."""
    must_be_run(run)
    must_be_whole(point, 0, run.last)
    done = served_ahead(run, point)
    found = []
    for name, number, comes, due, begins, ends in run.works:
        member = run.comings.crew.named(name)
        # A work may need less than COST: once it is ended it holds nothing, however far its holds would reach.
        waits = ends is None or point < ends
        if waits and (name, number) in done and isinstance(member, Task):
            found += [(tool, name, number) for tool in member.held(done[(name, number)])]
    return tuple(sorted(found))


def turns_of(run):
    """What tells which of two works of a run goes ahead by the rule, by (NAME, NUMBER)."""
    names = run.comings.crew.names()
    return {
        (name, number): (due, names.index(name), comes)
        for name, number, comes, due, begins, ends in run.works
    }


def held_up(run):
    """The rising tuple of (NAME, NUMBER, BY, OTHER, MOMENTS): who waited so long while who behind it was served."""
    must_be_run(run)
    turns = turns_of(run)
    found = {}
    came = 0
    waiting = []
    for start, end, by, other in run.pieces:
        while came < len(run.works) and run.works[came][2] < end:
            waiting.append(run.works[came])
            came += 1
        waiting = [row for row in waiting if row[5] is None or row[5] > start]
        for name, number, comes, due, begins, ends in waiting:
            if turns[(name, number)] < turns[(by, other)]:
                key = (name, number, by, other)
                found[key] = found.get(key, 0) + end - max(start, comes)
    return tuple(sorted([(*key, moments) for key, moments in found.items()]))


def most_held_up(crew, name):
    """The greatest number of moments that a work of NAME can be held up."""
    must_be_crew(crew)
    due = due_of(crew.named(name))
    levels = levels_of(crew)
    tasks = [member for member in crew.members if isinstance(member, Task) and member.due > due]
    return max([longest_hold(task, levels, task.due - 1)[0] for task in tasks], default=0)
