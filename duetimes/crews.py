"""Crews: tasks and doors that share one hand."""

from duetimes.errors import NoCrew, NoName, NoTool, TooMany
from duetimes.members import Door, Task, is_name, must_be_whole

LIMIT = 600
MOST_STRETCH = 900
MOST_MEMBERS = 8


def is_member(thing):
    """Whether a thing of any kind is a task or a door."""
    return isinstance(thing, (Task, Door))


def are_members(thing):
    """Whether a thing of any kind is a tuple of members, their names apart."""
    if not isinstance(thing, tuple) or len(thing) > MOST_MEMBERS:
        return False
    return all([is_member(member) for member in thing])


def name_twice(members):
    """The name of the first member that has the name of one ahead, or None."""
    ahead = []
    for member in members:
        if member.name in ahead:
            return member.name
        ahead.append(member.name)
    return None


def cost_of(member):
    """The COST of a task, the ROOM of a door."""
    return member.room if isinstance(member, Door) else member.cost


def due_of(member):
    """The DUE of a task, the GAP of a door."""
    return member.gap if isinstance(member, Door) else member.due


def has_holds(member):
    """Whether a member is a task that holds tools."""
    return isinstance(member, Task) and len(member.holds) > 0


def common_part(number, other):
    """The greatest number that divides both."""
    while other != 0:
        number, other = other, number % other
    return number


def added(shares):
    """All shares (TOP, BOTTOM) together, in lowest terms."""
    top = 0
    bottom = 1
    for above, below in shares:
        top = top * below + above * bottom
        bottom = bottom * below
    common = common_part(top, bottom)
    return (top // common, bottom // common)


class Crew:
    """Members of unlike names, numbered from 0."""

    def __init__(self, members=()):
        if not are_members(members):
            raise NoCrew(None)
        twice = name_twice(members)
        if twice is not None:
            raise NoCrew(twice)
        self.members = members

    def names(self):
        """The names of all members, in their order."""
        return tuple([member.name for member in self.members])

    def named(self, name):
        """The member of this name."""
        # What is no name is never compared: its own == may say anything.
        if is_name(name):
            for member in self.members:
                if member.name == name:
                    return member
        raise NoName(name)

    def with_member(self, member):
        """A crew with this member behind, or in the place of that of its name."""
        if not is_member(member):
            raise NoCrew(None)
        if member.name not in self.names():
            return Crew((*self.members, member))
        return Crew(tuple([member if own.name == member.name else own for own in self.members]))

    def without(self, name):
        """A crew without the member of this name."""
        left = self.named(name)
        return Crew(tuple([own for own in self.members if own.name != left.name]))

    def load(self):
        """All COSTs by their GAPs together, as (TOP, BOTTOM) in lowest terms."""
        return added([(cost_of(member), member.gap) for member in self.members])

    def stretch(self, *, most=LIMIT):
        """The least number from 1 on that all GAPs divide, up to MOST."""
        must_be_whole(most, 1, MOST_STRETCH)
        many = 1
        for member in self.members:
            many = many // common_part(many, member.gap) * member.gap
        if many > most:
            raise TooMany(many, most)
        return many

    def level(self, tool):
        """The least DUE of the tasks that have this tool in their HOLDS."""
        if not is_name(tool):
            raise NoTool(tool)
        tasks = [member for member in self.members if isinstance(member, Task)]
        dues = [task.due for task in tasks if tool in [hold[0] for hold in task.holds]]
        if not dues:
            raise NoTool(tool)
        return min(dues)

    def __eq__(self, other):
        return isinstance(other, Crew) and self.members == other.members

    def __len__(self):
        return len(self.members)

    def __str__(self):
        return "\n".join([str(member) for member in self.members])

    def __repr__(self):
        return f"Crew({', '.join(self.names())})"


def must_be_crew(thing):
    """Refuses what is no crew."""
    if not isinstance(thing, Crew):
        raise NoCrew(None)
