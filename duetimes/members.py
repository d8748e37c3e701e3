"""Tasks and doors, the members of crews, and what numbers and names are."""

from duetimes.errors import NoDoor, NoNumber, NoTask

LETTERS = "abcdefghijklmnopqrstuvwxyz"
MOST_LETTERS = 8
MOST_COST = 99
MOST_GAP = 600
MOST_HOLDS = 4


def is_number(thing):
    """Whether a thing of any kind is a whole number."""
    # True and False are ints too, but no numbers here.
    return isinstance(thing, int) and not isinstance(thing, bool)


def is_whole(thing, least, most):
    """Whether a thing of any kind is a whole number from LEAST to MOST."""
    return is_number(thing) and least <= thing <= most


def must_be_whole(thing, least, most):
    """Refuses what is no whole number from LEAST to MOST."""
    if not is_whole(thing, least, most):
        raise NoNumber(thing)


def is_name(thing):
    """Whether a thing of any kind is a name."""
    if not isinstance(thing, str) or not 1 <= len(thing) <= MOST_LETTERS:
        return False
    return all([sign in LETTERS for sign in thing])


def is_hold(thing, cost):
    """Whether a thing of any kind is a hold within COST moments."""
    if not isinstance(thing, tuple) or len(thing) != 3:
        return False
    tool, start, long = thing
    return is_name(tool) and is_whole(start, 0, cost) and is_whole(long, 1, cost - start)


def goes_ahead(hold, other):
    """Whether a hold is ahead of another one and not over it."""
    tool, start, long = hold
    if tool == other[0]:
        return start + long <= other[1]
    return tool < other[0]


def are_holds(thing, cost):
    """Whether a thing of any kind can be the holds of a task of this cost."""
    if not isinstance(thing, tuple) or len(thing) > MOST_HOLDS:
        return False
    if not all([is_hold(hold, cost) for hold in thing]):
        return False
    # Those of one tool stand side by side, so neighbours tell all.
    return all([goes_ahead(hold, other) for hold, other in zip(thing, thing[1:])])


def wrong_in_task(name, cost, gap, due, holds):
    """The first part, of things of any kind, by which they make no task, or None."""
    if not is_name(name):
        return "name"
    if not is_whole(cost, 1, MOST_COST):
        return "cost"
    if not is_whole(gap, 1, MOST_GAP):
        return "gap"
    if due is not None and not is_whole(due, 1, gap):
        return "due"
    if not are_holds(holds, cost):
        return "holds"
    return None


def wrong_in_door(name, room, gap):
    """The first part, of things of any kind, by which they make no door, or None."""
    if not is_name(name):
        return "name"
    if not is_whole(room, 1, MOST_COST):
        return "room"
    if not is_whole(gap, 1, MOST_GAP):
        return "gap"
    return None


class Task:
    """A member that sends works of at most COST moments, at least GAP apart, each due DUE behind its coming."""

    def __init__(self, name, cost, gap, *, due=None, holds=()):
        part = wrong_in_task(name, cost, gap, due, holds)
        if part is not None:
            raise NoTask(part)
        self.name = name
        self.cost = cost
        self.gap = gap
        self.due = gap if due is None else due
        self.holds = holds

    def held(self, done):
        """The rising tuple of the tools that a work holds when DONE of its moments have been served."""
        must_be_whole(done, 0, self.cost)
        return tuple([tool for tool, start, long in self.holds if start < done < start + long])

    def __eq__(self, other):
        return (
            isinstance(other, Task)
            and self.name == other.name
            and self.cost == other.cost
            and self.gap == other.gap
            and self.due == other.due
            and self.holds == other.holds
        )

    def __len__(self):
        return len(range(self.cost))

    def __str__(self):
        words = [f"task {self.name} {self.cost} {self.gap} {self.due}"]
        words += [f"{tool} {start} {long}" for tool, start, long in self.holds]
        return " ".join(words)

    def __repr__(self):
        return f"Task({self.name})"


class Door:
    """A member that lets comers in without a gap, served in portions of at most ROOM moments, GAP apart."""

    def __init__(self, name, room, gap):
        part = wrong_in_door(name, room, gap)
        if part is not None:
            raise NoDoor(part)
        self.name = name
        self.room = room
        self.gap = gap

    def __eq__(self, other):
        return (
            isinstance(other, Door)
            and self.name == other.name
            and self.room == other.room
            and self.gap == other.gap
        )

    def __len__(self):
        return len(range(self.room))

    def __str__(self):
        return f"door {self.name} {self.room} {self.gap}"

    def __repr__(self):
        return f"Door({self.name})"
