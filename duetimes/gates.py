"""The gate: tasks and doors come and go while all runs."""

from duetimes.comings import most_need
from duetimes.crews import LIMIT, MOST_MEMBERS, Crew, cost_of, is_member
from duetimes.demand import lets_in, must_be_let_in
from duetimes.errors import Busy, NoDeeds, NoMember, NoName, Standing, TooMany, TooSoon
from duetimes.greatest import with_one_more
from duetimes.members import MOST_COST, Door, Task, is_name, must_be_whole
from duetimes.rule import levels_of, turn
from duetimes.runs import Hand, Side

MOST_MOMENTS = 10 ** 6

# How many parts the deeds of each word have.
DEED_PARTS = {"let": 2, "leave": 2, "come": 3, "go": 2}


def is_deed(thing):
    """Whether a thing of any kind is a deed by its word and length."""
    if not isinstance(thing, tuple) or len(thing) == 0 or not isinstance(thing[0], str):
        return False
    return thing[0] in DEED_PARTS and len(thing) == DEED_PARTS[thing[0]]


def must_be_deeds(thing):
    """Refuses what is no tuple of deeds."""
    if not isinstance(thing, tuple):
        raise NoDeeds(None)
    for number, deed in enumerate(thing):
        if not is_deed(deed):
            raise NoDeeds(number)


def go_together(members):
    """Whether members of unlike names make a crew that is let in, its stretch being no more than may be."""
    if len(members) > MOST_MEMBERS:
        return False
    try:
        return lets_in(Crew(tuple(members)))[0] == "in"
    except TooMany:
        return False


class Gate:
    """A point in time, those who are in, left or to be in there, and the works that wait."""

    def __init__(self, crew=None):
        if crew is not None:
            must_be_let_in(crew, LIMIT)
        # Its sides are of all that are in or left, in the order in which they came to be in.
        self.hand = Hand(Crew())
        self.left = []
        self.soon = []
        self.numbers = {}
        self.places = 0
        self.rows = []
        self.doing = False
        self.tries = 0
        if crew is not None:
            self.soon = list(crew.members)
            self.rows = [(0, "let", member) for member in crew.members]
            self.settle()

    def all_sides(self):
        """What is known of those who are in or left."""
        return list(self.hand.sides.values())

    def members_counted(self):
        """Those who are in or left."""
        return [side.member for side in self.all_sides()]

    def members_in(self):
        """Those who are in."""
        return [member for member in self.members_counted() if member.name not in self.left]

    def crew_in(self):
        """A crew of those who are in."""
        return Crew(tuple(self.members_in()))

    def who(self):
        """The names of those in, of those that left but still count, and of those that are to be in."""
        names = [member.name for member in self.members_counted()]
        return (
            tuple([name for name in names if name not in self.left]),
            tuple([name for name in names if name in self.left]),
            tuple([member.name for member in self.soon]),
        )

    def side_in(self, name):
        """What is known of the member of this name that is in."""
        # What is no name is never compared: its own == may say anything.
        if not is_name(name) or name not in self.who()[0]:
            raise NoName(name)
        return self.hand.sides[name]

    def take_in(self, member):
        """A member is in from now on."""
        sent, entered = self.numbers.get(member.name, (0, 0))
        side = Side(member, self.places, sent=sent, entered=entered)
        self.places += 1
        self.hand.change(self.all_sides() + [side])

    def forget(self, name):
        """One that left counts no more; only its numbers go on, should the name be let in anew."""
        side = self.hand.sides[name]
        self.numbers[name] = (side.sent, side.entered)
        self.hand.change([own for own in self.all_sides() if own.member.name != name])

    def settle(self):
        """Where no work waits, those that left count no more, and those to be in are in."""
        if self.hand.waiting:
            return
        for name in self.left:
            self.forget(name)
        self.left = []
        for member in self.soon:
            self.take_in(member)
        self.soon = []

    def is_free_for(self, member):
        """Whether a member can be in at once."""
        if not go_together(self.members_counted() + [member]):
            return False
        tools = [hold[0] for hold in member.holds] if isinstance(member, Task) else []
        tasks = [work for work in self.hand.waiting if isinstance(work.member, Task)]
        held = [tool for work in tasks for tool in work.member.held(work.done)]
        return not any([tool in held for tool in tools])

    def let_in(self, member):
        """A member is in at once, or soon, when no work waits; which of both is told."""
        if not is_member(member):
            raise NoMember("this is neither a task nor a door")
        if any([member.name in names for names in self.who()]):
            raise Standing(member.name)
        wanted = Crew(tuple(self.members_in() + self.soon))
        must_be_let_in(with_one_more(wanted, member), LIMIT)
        self.rows.append((self.hand.now, "let", member))
        if not self.is_free_for(member):
            self.soon.append(member)
            return "soon"
        self.take_in(member)
        return "in"

    def leave(self, name):
        """One that is in leaves, its work goes on; or one that is to be in will not be."""
        if is_name(name) and name in self.who()[2]:
            self.soon = [member for member in self.soon if member.name != name]
        elif self.side_in(name).queue:
            raise Busy(name)
        else:
            self.left.append(name)
        self.rows.append((self.hand.now, "leave", name))
        self.settle()

    def come(self, name, *, need=None):
        """A work of a task, or a comer at a door, comes now; its number is told."""
        side = self.side_in(name)
        if need is not None:
            must_be_whole(need, 1, most_need(side.member))
        if isinstance(side.member, Task) and self.hand.now < side.free_from:
            raise TooSoon(side.free_from)
        wanted = cost_of(side.member) if need is None else need
        self.rows.append((self.hand.now, "come", name, wanted))
        return self.hand.let_come(name, wanted)

    def go(self, moments):
        """Goes on by so many moments; tells the pieces served in them."""
        must_be_whole(moments, 0, MOST_MOMENTS)
        return self.go_to(self.hand.now + moments)

    def go_to(self, stop):
        """Goes on to a point, however far; tells the pieces served on the way."""
        hand = self.hand
        hand.pieces = []
        while hand.now < stop:
            hand.let_portions_come()
            point = min(hand.portion_points(), default=stop)
            if hand.waiting:
                hand.serve(min(point, stop))
            else:
                hand.now = min(point, stop)
            self.settle()
        for piece in hand.pieces:
            self.note_served(piece)
        return tuple(hand.pieces)

    def note_served(self, piece):
        """Notes a piece, with the one that was noted last where nothing but a going parts them."""
        start, end, name, number = piece
        last = self.rows[-1]
        if last[1:4] == ("serve", name, number):
            start = last[0]
            self.rows.pop()
        self.rows.append((start, "serve", name, number, end))

    def point(self):
        """The point at which the gate is."""
        return self.hand.now

    def waiting_works(self):
        """(NAME, NUMBER, COMES, DONE) of the works that wait, by their turn."""
        works = sorted(self.hand.waiting, key=turn)
        return tuple([(work.member.name, work.number, work.comes, work.done) for work in works])

    def ended(self):
        """A list of (NAME, NUMBER, COMES, DUE, ENDS) of works, as they ended."""
        return [(work.member.name, work.number, work.comes, work.due, work.ends) for work in self.hand.over]

    def by_when(self, name, need):
        """The point by which a comer of this NEED, that came now, would be ended, whatever comes."""
        side = self.side_in(name)
        if not isinstance(side.member, Door):
            raise NoName(name)
        must_be_whole(need, 1, MOST_COST)
        room = side.member.room
        over = side.wanted + need
        if side.portion is not None:
            over = max(0, over - (room - side.portion.done))
        # A portion is ended when the next one may come, at the latest.
        return max(self.hand.now, side.free_from) + (over + room - 1) // room * side.member.gap

    def do(self, deeds, *, watch=None):
        """A list of the answers to deeds, done one by one; WATCH is asked with each and its answer."""
        self.tries += 1
        must_be_deeds(deeds)
        answers = []
        self.doing = True
        try:
            for deed in deeds:
                answer = self.carry_out(deed)
                answers.append(answer)
                if watch is not None:
                    watch(deed, answer)
        finally:
            self.doing = False
        return answers

    def carry_out(self, deed):
        """The answer to one deed, now done."""
        if deed[0] == "let":
            return self.let_in(deed[1])
        if deed[0] == "leave":
            return self.leave(deed[1])
        if deed[0] == "come":
            return self.come(deed[1], need=deed[2])
        return self.go(deed[1])

    def log(self):
        """A text of a row for each deed but goings, and each piece, in their turn."""
        rows = [*self.rows, (self.hand.now, "end")]
        return "\n".join([" ".join([str(part) for part in row]) for row in rows])

    def __len__(self):
        return len(self.members_in())
