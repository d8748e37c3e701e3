"""Rooms (point 16, and points 2 and 3 for it)."""

import inspect
import random
import unittest

from duetimes import rooms
from duetimes.comings import Comings
from duetimes.crews import Crew
from duetimes.demand import lets_in
from duetimes.errors import NoDoor, NoNumber, TimeError
from duetimes.members import Door, Task
from duetimes.rooms import most_served
from plain import PlainRun, some_crew
from things import HUGE, NO_WHOLES

FAR = 10 ** 6


def plain_most(door, long):
    """Just as the words go."""
    first = min(door.room, long)
    told = first
    for times in range(long + 1):
        told += max(0, min(door.room, long - first - times * door.gap))
    return told


def placings(room, gap, long, start):
    """The most served within [0, LONG) by portions, the next of which comes at START at the soonest."""
    if start >= long:
        return 0
    found = 0
    # A portion that comes at POINT is served in any ROOM of its GAP moments, one portion behind the other.
    for point in range(start, long):
        for begin in range(point, point + gap - room + 1):
            inside = len([moment for moment in range(begin, begin + room) if 0 <= moment < long])
            found = max(found, inside + placings(room, gap, long, point + gap))
    return found


def most_of_all(door, long):
    """By all placings of portions; the first may come ahead of the stretch."""
    return max([
        max([
            len([moment for moment in range(begin, begin + door.room) if 0 <= moment < long])
            + placings(door.room, door.gap, long, point + door.gap)
            for begin in range(point, point + door.gap - door.room + 1)
        ])
        for point in range(-door.gap, 1)
    ])


class Asking(unittest.TestCase):
    def check(self, door, long):
        told = most_served(door, long)
        self.assertEqual((told, told.__class__), (plain_most(door, long), int), (door.room, door.gap, long))
        return told


class Interface(unittest.TestCase):
    def test_the_function_stands_in_this_file(self):
        self.assertEqual(most_served.__module__, "duetimes.rooms")
        self.assertIs(rooms.most_served, most_served)
        self.assertEqual(str(inspect.signature(most_served)), "(door, long)")
        self.assertEqual(most_served(long=5, door=Door("a", 2, 4)), 4)


class Served(Asking):
    def test_around_room_and_gap(self):
        door = Door("d", 3, 10)
        for long, told in (
            (1, 1), (2, 2), (3, 3), (4, 4), (5, 5), (6, 6), (7, 6), (9, 6), (10, 6), (11, 6), (12, 6), (13, 6), (14, 7),
            (15, 8), (16, 9), (17, 9), (22, 9), (23, 9), (24, 10), (26, 12), (33, 12), (34, 13),
        ):
            self.assertEqual(self.check(door, long), told)

    def test_each_stretch_of_some_doors(self):
        for room in (1, 2, 3, 5, 9, 99):
            for gap in (1, 2, 3, 5, 10, 600):
                door = Door("d", room, gap)
                for long in range(1, 60):
                    self.check(door, long)
                for long in (room, gap, 2 * gap, 3 * gap, 7 * gap):
                    for by in (-1, 0, 1, room - 1, room, room + 1):
                        if long + by >= 1:
                            self.check(door, long + by)

    def test_room_that_fills_the_gap(self):
        for room in (1, 4, 99):
            for long in (1, room, room + 1, 5 * room + 2):
                self.assertEqual(self.check(Door("d", room, room), long), long)

    def test_room_above_the_gap(self):
        self.assertEqual(self.check(Door("d", 5, 2), 8), 5 + 3 + 1)
        self.assertEqual(self.check(Door("d", 5, 2), 10), 5 + 5 + 3 + 1)
        self.assertEqual(self.check(Door("d", 3, 1), 5), 3 + 2 + 1)
        self.assertEqual(self.check(Door("d", 99, 1), 99), 99)

    def test_far(self):
        self.assertEqual(most_served(Door("d", 1, 1), FAR), FAR)
        self.assertEqual(most_served(Door("d", 1, 600), FAR), 1 + 1667)
        self.assertEqual(most_served(Door("d", 99, 600), FAR), 99 + 99 * 1667)
        self.assertEqual(most_served(Door("d", 99, 1), FAR), 99 + 99 * (FAR - 99 - 98) + sum(range(99)))
        for room, gap in ((1, 1), (3, 7), (99, 600), (7, 3)):
            self.check(Door("d", room, gap), 20000)

    def test_against_all_placings_of_portions(self):
        for room in (1, 2, 3):
            for gap in range(room, 6):
                for long in range(1, 13):
                    door = Door("d", room, gap)
                    self.assertEqual(most_served(door, long), most_of_all(door, long), (room, gap, long))


class Refused(Asking):
    def refuses(self, kind, *row):
        with self.assertRaises(kind) as caught:
            most_served(*row)
        self.assertIsInstance(caught.exception, TimeError)
        return caught.exception

    def test_no_door(self):
        for thing in NO_WHOLES + (0, HUGE, Task("a", 1, 5), Crew((Door("a", 1, 5),)), Door, "door a 1 5", ("door", "a", 1, 5)):
            for long in (1, 0, None, FAR + 1):
                self.assertIsNone(self.refuses(NoDoor, thing, long).part)

    def test_no_long(self):
        for thing in NO_WHOLES + (0, -1, FAR + 1, HUGE, -HUGE):
            self.assertIs(self.refuses(NoNumber, Door("a", 1, 5), thing).number, thing)


class Promised(unittest.TestCase):
    def test_in_runs_of_crews_that_are_let_in(self):
        source = random.Random(16)
        many = just = 0
        for time in range(300):
            door = Door("door", source.randint(1, 4), source.choice((5, 8, 10)))
            crew = Crew((*some_crew(source, most=2, gaps=(5, 10, 20), holds=0.4).members, door))
            if lets_in(crew)[0] != "in":
                continue
            rows = [("door", source.randint(0, 12), source.randint(1, 9)) for row in range(source.randint(1, 4))]
            for member in crew.members[:-1]:
                moment = source.randint(0, 12)
                while moment < 50:
                    rows.append((member.name, moment, None))
                    moment += member.gap + source.choice((0, 0, 1, 4))
            Comings(crew, tuple(rows))
            moments = PlainRun(crew, rows).moments
            serves = [who is not None and who[0] == "door" for note, who in moments]
            for start in range(len(serves)):
                for end in range(start + 1, len(serves) + 1):
                    served = sum(serves[start:end])
                    self.assertLessEqual(served, most_served(door, end - start))
                    just += served == most_served(door, end - start) and served > door.room
            many += 1
        self.assertGreater(many, 100)
        self.assertGreater(just, 0)


if __name__ == "__main__":
    unittest.main()
