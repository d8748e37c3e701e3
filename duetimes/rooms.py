"""Rooms: the most that a door serves in a stretch of moments."""

from duetimes.demand import MOST_LONG
from duetimes.errors import NoDoor
from duetimes.members import Door, must_be_whole


def most_served(door, long):
    """The most moments in which a door serves, of LONG side by side.

    The first portion is served as late as it may be, and each next one as soon as it comes.
    """
    if not isinstance(door, Door):
        raise NoDoor(None)
    must_be_whole(long, 1, MOST_LONG)
    first = min(door.room, long)
    rest = long - first
    # Of these portions all but the last few, at most, fit in whole: they are leapt over.
    whole = max(0, (rest - door.room) // door.gap + 1)
    parts = [rest - at for at in range(whole * door.gap, rest, door.gap)]
    return first + whole * door.room + sum(parts)
