"""All refusals, in three families.

No message tells what was handed in: that may be a thing of any kind, which
need not be fit to be written out. It stands in the field alone.
"""


class TimeError(ValueError):
    """The family of what is not of the kind, form or bounds asked for."""


class NoTask(TimeError):
    """No task can be made; part names the first argument that isn't so."""

    def __init__(self, part):
        super().__init__("this makes no task")
        self.part = part


class NoDoor(TimeError):
    """No door can be made, or this is none; part names the first argument that isn't so."""

    def __init__(self, part):
        super().__init__("this is or makes no door")
        self.part = part


class NoCrew(TimeError):
    """No crew can be made, or this is none; name is the one that stands twice, or None."""

    def __init__(self, name):
        super().__init__("this is or makes no crew")
        self.name = name


class NoNumber(TimeError):
    """No whole number within its bounds; number is what was handed in."""

    def __init__(self, number):
        super().__init__("this is no whole number within its bounds")
        self.number = number


class NoText(TimeError):
    """No text that can be read; row is the number of the first row that isn't so."""

    def __init__(self, row):
        super().__init__("this text can not be read")
        self.row = row


class NoComings(TimeError):
    """No comings; number is that of the first row that isn't so, or None."""

    def __init__(self, number):
        super().__init__("this is or makes no comings")
        self.number = number


class NoWorks(TimeError):
    """No works that wait; number is the place of the first that isn't so, or None."""

    def __init__(self, number):
        super().__init__("these are no works")
        self.number = number


class NoDeeds(TimeError):
    """No deeds; number is that of the first that isn't so, or None."""

    def __init__(self, number):
        super().__init__("these are no deeds")
        self.number = number


class NoRun(TimeError):
    """What was handed in is no run."""


class NoPlain(TimeError):
    """The crew has holds where it must have none."""


class NoMember(TimeError):
    """What was handed in is neither a task nor a door."""


class NoRow(TimeError):
    """The desk knows no such row."""


class LostError(LookupError):
    """The family of what was looked for and is not there."""


class NoName(LostError):
    """Nobody has this name; name is what was handed in."""

    def __init__(self, name):
        super().__init__("nobody has this name")
        self.name = name


class NoTool(LostError):
    """No task holds this tool; tool is what was handed in."""

    def __init__(self, tool):
        super().__init__("no task holds this tool")
        self.tool = tool


class FullError(ArithmeticError):
    """The family of what has no room, or no time, left."""


class TooMany(FullError):
    """There would be many, of which at most most may be."""

    def __init__(self, many, most):
        super().__init__("this is more than may be")
        self.many = many
        self.most = most


class TooMuch(FullError):
    """The load is above 1; share is the load."""

    def __init__(self, share):
        super().__init__("the load is above 1")
        self.share = share


class TooSoon(FullError):
    """The task's last work came less than its gap ago; first is the point from which on one may come."""

    def __init__(self, first):
        super().__init__("the next work may not come yet")
        self.first = first


class Standing(FullError):
    """The name is taken already."""

    def __init__(self, name):
        super().__init__("the name is taken already")
        self.name = name


class Busy(FullError):
    """Somebody waits at the door of this name."""

    def __init__(self, name):
        super().__init__("somebody waits at this door")
        self.name = name


class Breaks(FullError):
    """The crew is not let in; long is the stretch that is too short, by comings a work is late."""

    def __init__(self, long, comings):
        super().__init__("a work of this crew can be late")
        self.long = long
        self.comings = comings
