"""Comings: which works and comers come to a crew, and when."""

from duetimes.crews import cost_of, must_be_crew
from duetimes.errors import NoComings, NoNumber
from duetimes.members import MOST_COST, Door, Task, is_name, is_number, is_whole

MOST_ROWS = 1000
MOST_MOMENT = 10 ** 9


def most_need(member):
    """The most that one work of a task, or one comer at a door, may need."""
    return MOST_COST if isinstance(member, Door) else member.cost


def is_row(crew, thing):
    """Whether a thing of any kind is a row by itself."""
    if not isinstance(thing, tuple) or len(thing) != 3:
        return False
    name, moment, need = thing
    if not is_name(name) or name not in crew.names() or not is_whole(moment, 0, MOST_MOMENT):
        return False
    return need is None or is_whole(need, 1, most_need(crew.named(name)))


def wrong_row(crew, rows):
    """The number of the first row that isn't so by itself or by those ahead, or None."""
    ahead = {name: [] for name in crew.names()}
    for number, row in enumerate(rows):
        if not is_row(crew, row):
            return number
        name = row[0]
        moment = row[1]
        member = crew.named(name)
        if isinstance(member, Task) and any([abs(moment - other) < member.gap for other in ahead[name]]):
            return number
        ahead[name].append(moment)
    return None


def are_rows(thing):
    """Whether a thing of any kind is a tuple that is not too long, what is in it apart."""
    return isinstance(thing, tuple) and len(thing) <= MOST_ROWS


def in_order(crew, rows):
    """The rows by MOMENT, then member's number, then as they stand, each NEED a number."""
    names = crew.names()
    filled = [
        (name, moment, cost_of(crew.named(name)) if need is None else need)
        for name, moment, need in rows
    ]
    return tuple(sorted(filled, key=lambda row: (row[1], names.index(row[0]))))


class Comings:
    """Works and comers that come to a crew."""

    def __init__(self, crew, rows=()):
        must_be_crew(crew)
        if not are_rows(rows):
            raise NoComings(None)
        wrong = wrong_row(crew, rows)
        if wrong is not None:
            raise NoComings(wrong)
        self.crew = crew
        self.rows = in_order(crew, rows)

    def moved(self, by):
        """Comings with all MOMENTs so many more."""
        if not is_number(by):
            raise NoNumber(by)
        rows = tuple([(name, moment + by, need) for name, moment, need in self.rows])
        if not all([is_whole(row[1], 0, MOST_MOMENT) for row in rows]):
            raise NoNumber(by)
        return Comings(self.crew, rows)

    def joined(self, other):
        """Comings with the rows of both, its own ahead."""
        if not isinstance(other, Comings) or self.crew != other.crew:
            raise NoComings(None)
        rows = self.rows + other.rows
        if not are_rows(rows):
            raise NoComings(None)
        # Both are right by themselves, so a row that isn't right here is one of the other's that is too near.
        wrong = wrong_row(self.crew, rows)
        if wrong is not None:
            raise NoComings(wrong - len(self.rows))
        return Comings(self.crew, rows)

    def __eq__(self, other):
        return isinstance(other, Comings) and self.crew == other.crew and self.rows == other.rows

    def __len__(self):
        return len(self.rows)

    def __str__(self):
        return "\n".join([f"{name} {moment} {need}" for name, moment, need in self.rows])

    def __repr__(self):
        return f"Comings({len(self.rows)})"
