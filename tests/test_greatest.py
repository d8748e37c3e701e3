"""Greatest and least (point 17, and points 2 and 3 for it)."""

import inspect
import random
import unittest

from duetimes import greatest
from duetimes.comings import Comings
from duetimes.crews import Crew
from duetimes.errors import Breaks, FullError, NoCrew, NoNumber, TimeError, TooMany
from duetimes.greatest import greatest_cost, least_due
from duetimes.members import Door, Task
from plain import PlainRun, plain_least, plain_stretch, some_crew
from things import HUGE, NO_WHOLES

SAW = Task("saw", 3, 10, due=8)
SHOP = Door("shop", 4, 20)
CREW = Crew((SAW, SHOP))
EIGHT = Crew(tuple([Task(name, 1, 20) for name in "abcdefgh"]))
# Not let in: 7 moments within 5.
BROKEN = Crew((Task("a", 4, 10, due=5), Task("b", 3, 10, due=5)))


def free_name(crew):
    return [name for name in ("new", "newer") if name not in crew.names()][0]


def is_let_in(crew, cost, gap, due):
    """By a plain test, stretch by stretch."""
    more = Crew((*crew.members, Task(free_name(crew), cost, gap, due=due)))
    return plain_least(more, plain_stretch(more)) is None


class Asking(unittest.TestCase):
    def check_cost(self, crew, gap, **more):
        cost = greatest_cost(crew, gap, **more)
        due = more.get("due")
        self.assertIsInstance(cost, int)
        self.assertTrue(0 <= cost <= 99)
        if cost > 0:
            self.assertTrue(is_let_in(crew, cost, gap, due))
        if cost < 99:
            self.assertFalse(is_let_in(crew, cost + 1, gap, due))
        return cost

    def check_due(self, crew, cost, gap, **more):
        due = least_due(crew, cost, gap, **more)
        if due is None:
            self.assertFalse(is_let_in(crew, cost, gap, gap))
        else:
            self.assertIsInstance(due, int)
            self.assertTrue(1 <= due <= gap)
            self.assertTrue(is_let_in(crew, cost, gap, due))
            if due > 1:
                self.assertFalse(is_let_in(crew, cost, gap, due - 1))
        return due

    def refuses(self, kind, family, ask):
        with self.assertRaises(kind) as caught:
            ask()
        self.assertIsInstance(caught.exception, family)
        return caught.exception

    def refuses_number(self, number, ask):
        self.assertIs(self.refuses(NoNumber, TimeError, ask).number, number)

    def refuses_many(self, many, most, ask):
        refused = self.refuses(TooMany, FullError, ask)
        self.assertEqual((refused.many, refused.most), (many, most))


class Interface(unittest.TestCase):
    def test_the_functions_stand_in_this_file(self):
        for name, found, row in (
            ("greatest_cost", greatest_cost, "(crew, gap, *, due=None, most=600)"),
            ("least_due", least_due, "(crew, cost, gap, *, most=600)"),
        ):
            self.assertEqual(found.__module__, "duetimes.greatest")
            self.assertIs(getattr(greatest, name), found)
            self.assertEqual(str(inspect.signature(found)), row)

    def test_by_place_and_by_name(self):
        self.assertEqual(greatest_cost(gap=20, crew=CREW, most=40, due=12), greatest_cost(CREW, 20, due=12))
        self.assertEqual(least_due(gap=20, cost=2, crew=CREW, most=40), least_due(CREW, 2, 20))
        for ask in (lambda: greatest_cost(CREW, 20, 12), lambda: least_due(CREW, 2, 20, 40)):
            with self.assertRaises(TypeError):
                ask()


class Greatest(Asking):
    def test_of_nobody(self):
        for gap in (1, 2, 98, 99, 100, 600):
            self.assertEqual(self.check_cost(Crew(), gap), min(gap, 99))
            for due in (1, gap // 2 + 1, gap):
                self.assertEqual(self.check_cost(Crew(), gap, due=due), min(due, 99))

    def test_between(self):
        self.assertEqual(self.check_cost(CREW, 10), 5)
        self.assertEqual(self.check_cost(CREW, 20), 10)
        self.assertEqual(self.check_cost(CREW, 20, due=12), 9)
        self.assertEqual(self.check_cost(CREW, 20, due=1), 1)
        self.assertEqual(self.check_cost(Crew((Task("a", 3, 5),)), 7, most=35), 2)

    def test_due_left_out_and_none_are_the_gap(self):
        for gap in (5, 20, 30):
            told = greatest_cost(CREW, gap)
            self.assertEqual(greatest_cost(CREW, gap, due=None), told)
            self.assertEqual(greatest_cost(CREW, gap, due=gap), told)

    def test_none_fits(self):
        full = Crew((Task("a", 5, 5),))
        for gap in (1, 5, 600):
            for due in (1, gap, None):
                self.assertEqual(self.check_cost(full, gap, due=due), 0)
        tight = Crew((Task("a", 5, 50, due=5),))
        self.assertEqual([self.check_cost(tight, 50, due=due) for due in (4, 5, 6, 7)], [0, 0, 1, 2])
        self.assertEqual(self.check_cost(Crew((Task("a", 1, 20, due=1),)), 20, due=1), 0)

    def test_most_of_all(self):
        small = Crew((Task("a", 1, 300),))
        self.assertEqual(self.check_cost(small, 100), 99)
        self.assertEqual(self.check_cost(small, 100, due=99), 99)
        self.assertEqual(self.check_cost(small, 100, due=98), 98)
        self.assertEqual(self.check_cost(small, 300), 99)

    def test_holds_of_others_count(self):
        slow = Task("slow", 6, 60, due=50, holds=(("t", 1, 4),))
        user = Task("user", 2, 20, due=10, holds=(("t", 0, 1),))
        self.assertEqual(self.check_cost(Crew((slow, user)), 20, due=10), 5)
        self.assertEqual(self.check_cost(Crew((Task("slow", 6, 60, due=50), user)), 20, due=10), 8)
        self.assertEqual(self.check_cost(Crew((slow, user)), 20, due=9), 5)
        self.assertEqual(self.check_cost(Crew((slow, user)), 20, due=3), 3)

    def test_names_of_one_letter_are_free(self):
        crew = Crew(tuple([Task(name, 1, 20) for name in "abcdefg"]))
        self.assertEqual(self.check_cost(crew, 20), 13)
        self.assertEqual(self.check_due(crew, 1, 20), 1)
        self.assertEqual(self.check_due(crew, 13, 20), 13)

    def test_most_told(self):
        crew = Crew((Task("a", 2, 7),))
        self.assertEqual(self.check_cost(crew, 8, most=56), 5)
        self.refuses_many(56, 55, lambda: greatest_cost(crew, 8, most=55))
        self.assertEqual(self.check_cost(Crew((Task("a", 2, 25),)), 36, most=900), 33)
        self.refuses_many(900, 600, lambda: greatest_cost(Crew((Task("a", 2, 25),)), 36))

    def test_any_crews(self):
        source = random.Random(17)
        seen = set()
        for time in range(150):
            crew = some_crew(source, gaps=(5, 10, 15, 30), costs=3)
            if plain_least(crew, plain_stretch(crew)) is None:
                gap = source.choice((3, 6, 10, 20, 30))
                due = source.choice((None, source.randint(1, gap)))
                seen.add(self.check_cost(crew, gap, due=due))
        self.assertGreater(len(seen), 5)
        self.assertIn(0, seen)


class Least(Asking):
    def test_of_nobody(self):
        for gap in (1, 2, 99, 600):
            for cost in (1, min(gap, 99)):
                self.assertEqual(self.check_due(Crew(), cost, gap), cost)
        self.assertIsNone(self.check_due(Crew(), 2, 1))
        self.assertIsNone(self.check_due(Crew(), 99, 98))

    def test_between(self):
        self.assertEqual(self.check_due(CREW, 1, 20), 1)
        self.assertEqual(self.check_due(CREW, 5, 20), 5)
        self.assertEqual(self.check_due(CREW, 6, 20), 9)
        self.assertEqual(self.check_due(CREW, 10, 20), 13)
        self.assertIsNone(self.check_due(CREW, 11, 20))
        self.assertIsNone(self.check_due(CREW, 99, 20))

    def test_the_gap_itself(self):
        self.assertEqual(self.check_due(Crew((Task("a", 4, 8),)), 4, 8), 4)
        self.assertEqual(self.check_due(Crew((Task("a", 4, 8, due=4),)), 4, 8), 8)
        self.assertEqual(self.check_due(Crew((Task("a", 2, 3, due=2),)), 1, 3), 3)
        self.assertIsNone(self.check_due(Crew((Task("a", 4, 8),)), 5, 8))

    def test_most_told(self):
        crew = Crew((Task("a", 2, 25),))
        self.assertEqual(self.check_due(crew, 5, 36, most=900), 5)
        self.refuses_many(900, 899, lambda: least_due(crew, 5, 36, most=899))
        self.refuses_many(900, 600, lambda: least_due(crew, 5, 36))

    def test_any_crews(self):
        source = random.Random(18)
        seen = set()
        for time in range(150):
            crew = some_crew(source, gaps=(5, 10, 15, 30), costs=3)
            if plain_least(crew, plain_stretch(crew)) is None:
                gap = source.choice((3, 6, 10, 20, 30))
                seen.add(self.check_due(crew, source.randint(1, 9), gap))
        self.assertGreater(len(seen), 5)
        self.assertIn(None, seen)

    def test_it_goes_with_the_greatest(self):
        for gap in (10, 20):
            for cost in range(1, 12):
                due = least_due(CREW, cost, gap)
                if due is not None:
                    self.assertGreaterEqual(greatest_cost(CREW, gap, due=due), cost)
                    if due > 1:
                        self.assertLess(greatest_cost(CREW, gap, due=due - 1), cost)


class Refused(Asking):
    def test_no_crew(self):
        for thing in NO_WHOLES + (0, HUGE, SAW, CREW.members, str(CREW), Crew, Comings(CREW)):
            for ask in (
                lambda: greatest_cost(thing, 5),
                lambda: greatest_cost(thing, 0, due=0, most=0),
                lambda: least_due(thing, 1, 5),
                lambda: least_due(thing, None, None, most=None),
            ):
                self.assertIsNone(self.refuses(NoCrew, TimeError, ask).name)

    def test_no_gap(self):
        for thing in NO_WHOLES + (0, -1, 601, HUGE, -HUGE):
            for crew in (Crew(), CREW, EIGHT, BROKEN):
                self.refuses_number(thing, lambda: greatest_cost(crew, thing))
                self.refuses_number(thing, lambda: greatest_cost(crew, thing, due="x", most="y"))
                self.refuses_number(thing, lambda: least_due(crew, 1, thing))
                self.refuses_number(thing, lambda: least_due(crew, 99, thing, most="y"))

    def test_no_due(self):
        for thing in NO_WHOLES + (0, -1, 11, 601, HUGE, -HUGE):
            if thing is not None:
                for crew in (Crew(), CREW, EIGHT, BROKEN):
                    self.refuses_number(thing, lambda: greatest_cost(crew, 10, due=thing))
                    self.refuses_number(thing, lambda: greatest_cost(crew, 10, due=thing, most=0))

    def test_no_cost(self):
        for thing in NO_WHOLES + (0, -1, 100, HUGE, -HUGE):
            for crew in (Crew(), CREW, EIGHT, BROKEN):
                self.refuses_number(thing, lambda: least_due(crew, thing, 10))
                self.refuses_number(thing, lambda: least_due(crew, thing, 0, most=0))

    def test_no_most(self):
        for thing in NO_WHOLES + (0, -1, 901, HUGE, -HUGE):
            for crew in (Crew(), CREW, EIGHT, BROKEN):
                self.refuses_number(thing, lambda: greatest_cost(crew, 10, most=thing))
                self.refuses_number(thing, lambda: greatest_cost(crew, 10, due=2, most=thing))
                self.refuses_number(thing, lambda: least_due(crew, 1, 10, most=thing))

    def test_eight_members(self):
        broken = Crew(tuple([Task(name, 9, 20) for name in "abcdefgh"]))
        for crew in (EIGHT, broken):
            for gap in (20, 599):
                for more in ({}, {"most": 1}):
                    self.refuses_many(9, 8, lambda: greatest_cost(crew, gap, **more))
                    self.refuses_many(9, 8, lambda: least_due(crew, 1, gap, **more))

    def test_stretch(self):
        for crew in (Crew((Task("a", 1, 7),)), Crew((Task("a", 9, 7),)), Crew((Task("a", 9, 7), Door("b", 9, 1)))):
            self.refuses_many(7 * 100, 600, lambda: greatest_cost(crew, 100))
            self.refuses_many(7 * 100, 699, lambda: least_due(crew, 1, 100, most=699))
            self.refuses_many(7, 6, lambda: greatest_cost(crew, 7, most=6))
        self.refuses_many(2, 1, lambda: greatest_cost(Crew(), 2, most=1))
        self.assertEqual(greatest_cost(Crew(), 1, most=1), 1)
        self.assertEqual(greatest_cost(Crew((Task("a", 1, 7),)), 100, most=700), 85)

    def test_the_stretch_of_the_crew_itself(self):
        crew = Crew((Task("a", 1, 25), Task("b", 1, 36)))
        self.refuses_many(900, 600, lambda: greatest_cost(crew, 5))
        self.refuses_many(900, 600, lambda: least_due(crew, 1, 5))

    def test_crews_that_break(self):
        for ask in (
            lambda: greatest_cost(BROKEN, 10), lambda: greatest_cost(BROKEN, 5, due=1, most=10),
            lambda: least_due(BROKEN, 1, 10), lambda: least_due(BROKEN, 99, 1, most=10),
        ):
            refused = self.refuses(Breaks, FullError, ask)
            self.assertEqual(refused.long, 5)
            self.assertIsInstance(refused.comings, Comings)
            self.assertEqual(refused.comings.crew, BROKEN)
            self.assertEqual(refused.comings.rows[0][1], 0)
            self.assertTrue(PlainRun(BROKEN, refused.comings.rows).late())

    def test_any_crews_that_break(self):
        source = random.Random(19)
        many = 0
        for time in range(100):
            crew = some_crew(source, gaps=(5, 10, 15, 30), costs=5)
            long = plain_least(crew, plain_stretch(crew))
            if long is not None:
                many += 1
                for ask in (lambda: greatest_cost(crew, 5), lambda: least_due(crew, 1, 5)):
                    refused = self.refuses(Breaks, FullError, ask)
                    self.assertEqual((refused.long, refused.comings.crew), (long, crew))
                    self.assertTrue(PlainRun(crew, refused.comings.rows).late())
        self.assertGreater(many, 20)

    def test_nothing_is_changed(self):
        crew = Crew((SAW, SHOP))
        greatest_cost(crew, 20)
        least_due(crew, 1, 20)
        self.assertEqual((crew, crew.members), (CREW, (SAW, SHOP)))


if __name__ == "__main__":
    unittest.main()
