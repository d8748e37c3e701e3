"""Runs: what is served when, by comings that are played."""

from duetimes.comings import Comings
from duetimes.crews import Crew, cost_of
from duetimes.errors import NoComings, NoNumber
from duetimes.members import Door, is_number, must_be_whole
from duetimes.rule import Work, choose, levels_of

MOST_UNTIL = 10 ** 12


class Comer:
    """One who came to a door."""

    def __init__(self, name, number, comes, need):
        self.name = name
        self.number = number
        self.comes = comes
        self.need = need
        self.left = need
        self.ends = None


class Side:
    """What a hand knows of one member: how many came so far, who waits at its door, when its next work may come."""

    def __init__(self, member, place, *, sent=0, entered=0):
        self.member = member
        self.place = place
        self.sent = sent
        self.entered = entered
        self.queue = []
        self.wanted = 0
        self.portion = None
        self.free_from = 0


class Hand:
    """Serves what comes to a crew, from point to point."""

    def __init__(self, crew):
        self.levels = levels_of(crew)
        self.sides = {member.name: Side(member, place) for place, member in enumerate(crew.members)}
        self.now = 0
        self.works = []
        self.waiting = []
        self.comers = []
        self.over = []
        self.pieces = []

    def change(self, sides):
        """From now on it serves these members, among them all of which works wait."""
        self.levels = levels_of(Crew(tuple([side.member for side in sides])))
        self.sides = {side.member.name: side for side in sides}

    def let_come(self, name, need):
        """A work of a task, or a comer at a door, comes now; its number is told."""
        side = self.sides[name]
        if not isinstance(side.member, Door):
            return self.send(side, need).number
        comer = Comer(name, side.entered, self.now, need)
        side.entered += 1
        side.queue.append(comer)
        side.wanted += need
        self.comers.append(comer)
        return comer.number

    def send(self, side, need):
        """The next work of a member comes now; it is told."""
        work = Work(side.member, side.place, side.sent, self.now, need=need)
        side.sent += 1
        side.free_from = self.now + side.member.gap
        self.works.append(work)
        self.waiting.append(work)
        return work

    def lacking(self):
        """The members at whose doors somebody waits and no portion does."""
        return [side for side in self.sides.values() if side.queue and side.portion is None]

    def let_portions_come(self):
        """Portions come now wherever they may."""
        for side in self.lacking():
            if side.free_from <= self.now:
                side.portion = self.send(side, cost_of(side.member))

    def portion_points(self):
        """The points, all ahead, at which portions come though nobody else does."""
        return [side.free_from for side in self.lacking()]

    def left_of(self, work):
        """How many moments more a work is served, if nobody else comes."""
        left = work.need - work.done
        if isinstance(work.member, Door):
            left = min(left, self.sides[work.member.name].wanted)
        return left

    def serve(self, stop):
        """Serves one work by the rule, for as long as the rule surely stays with it, not beyond STOP if it is told."""
        work, held = choose(self.waiting, self.levels)
        # While the first one is held up, each moment served may set a tool free.
        moments = self.left_of(work) if held is None else 1
        if stop is not None:
            moments = min(moments, stop - self.now)
        if work.done == 0:
            work.begins = self.now
        self.note_piece(work, moments)
        if isinstance(work.member, Door):
            self.serve_comers(self.sides[work.member.name], moments)
        work.done += moments
        self.now += moments
        if self.left_of(work) == 0:
            self.end(work)

    def note_piece(self, work, moments):
        """Notes what is served now, with what is served in one go."""
        start = self.now
        row = (work.member.name, work.number)
        # The hand never rests while a work waits, so the last piece, where it is of this work, goes to this point.
        if self.pieces and self.pieces[-1][2:] == row:
            start = self.pieces.pop()[0]
        self.pieces.append((start, self.now + moments, *row))

    def serve_comers(self, side, moments):
        """Serves those who wait at a door, one behind the other."""
        side.wanted -= moments
        point = self.now
        while moments > 0:
            comer = side.queue[0]
            share = min(comer.left, moments)
            comer.left -= share
            point += share
            moments -= share
            if comer.left == 0:
                comer.ends = point
                side.queue.pop(0)

    def end(self, work):
        """A work is ended now."""
        work.ends = self.now
        self.waiting.remove(work)
        self.over.append(work)
        side = self.sides[work.member.name]
        side.portion = None


def play(hand, rows, until):
    """Plays rows, by their moments, till all is ended or to the point UNTIL."""
    at = 0
    while until is None or hand.now < until:
        while at < len(rows) and rows[at][1] == hand.now:
            hand.let_come(rows[at][0], rows[at][2])
            at += 1
        hand.let_portions_come()
        stops = hand.portion_points()
        if at < len(rows):
            stops.append(rows[at][1])
        if until is not None:
            stops.append(until)
        if hand.waiting:
            hand.serve(min(stops, default=None))
        elif stops:
            hand.now = min(stops)
        else:
            return


class Run:
    """What was served when, by comings that were played to the point LAST."""

    def __init__(self, comings, last, pieces, works, comers):
        self.comings = comings
        self.last = last
        self.pieces = pieces
        self.works = works
        self.comers = comers

    def late(self):
        """The rising tuple of (DUE, NAME, NUMBER) of works not ended by DUE."""
        return tuple(sorted([
            (due, name, number)
            for name, number, comes, due, begins, ends in self.works
            if due <= self.last and (ends is None or ends > due)
        ]))

    def at(self, moment):
        """(NAME, NUMBER) of the work served in a moment, or None."""
        if not is_number(moment) or moment < 0:
            raise NoNumber(moment)
        for start, end, name, number in self.pieces:
            if start <= moment < end:
                return (name, number)
        return None

    def __eq__(self, other):
        return (
            isinstance(other, Run)
            and self.comings == other.comings
            and self.last == other.last
            and self.pieces == other.pieces
            and self.works == other.works
            and self.comers == other.comers
        )

    def __len__(self):
        return len(self.pieces)

    def __str__(self):
        return "\n".join([f"{start} {end} {name} {number}" for start, end, name, number in self.pieces])

    def __repr__(self):
        return f"Run({self.last})"


def work_rows(works):
    """The rows (NAME, NUMBER, COMES, DUE, BEGINS, ENDS) of works, by COMES, then members' numbers."""
    ordered = sorted(works, key=lambda work: (work.comes, work.place))
    return tuple([
        (work.member.name, work.number, work.comes, work.due, work.begins, work.ends)
        for work in ordered
    ])


def comer_rows(comers):
    """The rows (NAME, NUMBER, COMES, NEED, ENDS) of comers."""
    return tuple([(comer.name, comer.number, comer.comes, comer.need, comer.ends) for comer in comers])


def played(comings, *, until=None):
    """The run by these comings, till all is ended or to the point UNTIL."""
    if not isinstance(comings, Comings):
        raise NoComings(None)
    if until is not None:
        must_be_whole(until, 0, MOST_UNTIL)
    hand = Hand(comings.crew)
    play(hand, comings.rows, until)
    return Run(comings, hand.now, tuple(hand.pieces), work_rows(hand.works), comer_rows(hand.comers))
