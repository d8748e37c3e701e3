"""The house's papers (point 24, and points 2, 3 and 23 for it)."""

import inspect
import random
import unittest

from duetimes import papers
from duetimes.checker import holds
from duetimes.comings import Comings
from duetimes.crews import Crew
from duetimes.demand import lets_in
from duetimes.errors import (
    Breaks, FullError, LostError, NoComings, NoCrew, NoName, NoNumber, NoPlain, TimeError, TooMany, TooMuch,
)
from duetimes.greatest import greatest_cost
from duetimes.members import Door, Task
from duetimes.papers import paper_as_long, paper_greatest, paper_held_up, paper_in, paper_run, paper_within
from duetimes.worst import worst
from plain import PlainRun, plain_least, plain_stretch, some_crew, some_holds, some_rows
from things import HUGE, NO_NAMES, NO_WHOLES

A = Task("a", 2, 5)
B = Task("b", 2, 6, due=5)
SHOP = Door("shop", 1, 10)
CREW = Crew((A, B, SHOP))
CREW_ROWS = (("task", "a", 2, 5, 5, ()), ("task", "b", 2, 6, 5, ()), ("door", "shop", 1, 10))
SLOW = Task("slow", 6, 60, due=50, holds=(("t", 1, 4),))
USER = Task("user", 2, 20, due=10, holds=(("t", 0, 1),))
HOLDERS = Crew((SLOW, USER))
BROKEN = Crew((Task("a", 4, 10, due=5), Task("b", 3, 10, due=5)))
LONG = Crew((Task("a", 1, 25), Task("b", 1, 36)))
NO_CREWS = NO_WHOLES + (0, HUGE, A, CREW.members, CREW_ROWS, str(CREW), Crew, Comings(CREW))


def plain_rows(crew):
    return tuple([
        ("door", member.name, member.room, member.gap) if isinstance(member, Door)
        else ("task", member.name, member.cost, member.gap, member.due, member.holds)
        for member in crew.members
    ])


class Asking(unittest.TestCase):
    def takes(self, told):
        """(CLAIM, PAPER), which the checker takes."""
        self.assertIsInstance(told, tuple)
        self.assertEqual(len(told), 2)
        claim, paper = told
        self.assertIs(holds(claim, paper), True, claim)
        return told

    def not_with(self, told, at, by):
        """The checker does not take the claim with so many more by the same paper."""
        claim, paper = told
        self.assertIs(holds((*claim[:at], claim[at] + by, *claim[at + 1:]), paper), False)

    def refuses(self, kind, family, ask, *row, **more):
        with self.assertRaises(kind) as caught:
            ask(*row, **more)
        self.assertIsInstance(caught.exception, family)
        return caught.exception

    def refuses_crew(self, ask, *row, **more):
        self.assertIsNone(self.refuses(NoCrew, TimeError, ask, *row, **more).name)

    def refuses_name(self, name, ask, *row, **more):
        self.assertIs(self.refuses(NoName, LostError, ask, *row, **more).name, name)

    def refuses_number(self, number, ask, *row, **more):
        self.assertIs(self.refuses(NoNumber, TimeError, ask, *row, **more).number, number)

    def refuses_many(self, fields, ask, *row, **more):
        refused = self.refuses(TooMany, FullError, ask, *row, **more)
        self.assertEqual((refused.many, refused.most), fields)

    def refuses_broken(self, crew, ask, *row, **more):
        refused = self.refuses(Breaks, FullError, ask, crew, *row, **more)
        self.assertEqual((refused.long, refused.comings), lets_in(crew, most=900)[1:])


class Interface(unittest.TestCase):
    def test_the_functions_stand_in_this_file(self):
        for name, found, row in (
            ("paper_in", paper_in, "(crew, *, most=600)"),
            ("paper_within", paper_within, "(crew, name, *, most=600)"),
            ("paper_as_long", paper_as_long, "(crew, name, *, most=600)"),
            ("paper_held_up", paper_held_up, "(comings, name)"),
            ("paper_greatest", paper_greatest, "(crew, gap, *, due=None, most=600)"),
            ("paper_run", paper_run, "(comings)"),
        ):
            self.assertEqual(found.__module__, "duetimes.papers")
            self.assertIs(getattr(papers, name), found)
            self.assertEqual(str(inspect.signature(found)), row)

    def test_by_place_and_by_name(self):
        made = Comings(HOLDERS, (("slow", 0, None), ("user", 2, None)))
        self.assertEqual(paper_in(most=30, crew=CREW), paper_in(CREW))
        self.assertEqual(paper_within(name="a", crew=CREW, most=30), paper_within(CREW, "a"))
        self.assertEqual(paper_as_long(name="a", crew=CREW, most=30), paper_as_long(CREW, "a"))
        self.assertEqual(paper_held_up(name="user", comings=made), paper_held_up(made, "user"))
        self.assertEqual(paper_greatest(gap=10, crew=CREW, due=10, most=30), paper_greatest(CREW, 10))
        self.assertEqual(paper_run(comings=made), paper_run(made))


class In(Asking):
    def test_let_in(self):
        claim, paper = self.takes(paper_in(CREW))
        self.assertEqual(claim, ("in", CREW_ROWS))
        self.assertIsInstance(paper, int)

    def test_broken(self):
        claim, paper = self.takes(paper_in(BROKEN))
        self.assertEqual(claim, ("breaks", plain_rows(BROKEN)))
        self.assertEqual(paper, lets_in(BROKEN)[2].rows)

    def test_holds_stand_in_the_rows(self):
        claim, paper = self.takes(paper_in(HOLDERS))
        self.assertEqual(claim, ("in", (
            ("task", "slow", 6, 60, 50, (("t", 1, 4),)), ("task", "user", 2, 20, 10, (("t", 0, 1),)),
        )))

    def test_nobody_and_eight(self):
        self.assertEqual(self.takes(paper_in(Crew()))[0], ("in", ()))
        crew = Crew(tuple([Task(name, 1, 20) for name in "abcdefgh"]))
        self.assertEqual(self.takes(paper_in(crew))[0], ("in", plain_rows(crew)))

    def test_load_of_one_and_more(self):
        self.assertEqual(self.takes(paper_in(Crew((Task("a", 5, 5),))))[0][0], "in")
        self.assertEqual(self.takes(paper_in(Crew((Task("a", 6, 5),))))[0][0], "breaks")
        self.assertEqual(self.takes(paper_in(Crew((Task("a", 3, 5), Door("d", 5, 12)))))[0][0], "breaks")

    def test_most(self):
        self.assertEqual(self.takes(paper_in(LONG, most=900))[0], ("in", plain_rows(LONG)))
        self.refuses_many((900, 600), paper_in, LONG)
        self.refuses_many((900, 899), paper_in, LONG, most=899)
        self.refuses_many((10, 9), paper_in, BROKEN, most=9)

    def test_refused(self):
        for thing in NO_CREWS:
            self.refuses_crew(paper_in, thing)
            self.refuses_crew(paper_in, thing, most=0)
        for thing in NO_WHOLES + (0, -1, 901, HUGE):
            self.refuses_number(thing, paper_in, LONG, most=thing)

    def test_any_crews(self):
        source = random.Random(24)
        words = []
        for time in range(250):
            crew = some_crew(source, most=5, costs=5)
            claim, paper = self.takes(paper_in(crew))
            words.append(claim[0])
            self.assertEqual(claim[0], "in" if plain_least(crew, plain_stretch(crew)) is None else "breaks")
            self.assertEqual(claim[1:], (plain_rows(crew),))
            other = "breaks" if claim[0] == "in" else "in"
            self.assertFalse(holds((other, *claim[1:]), paper))
        self.assertGreater(min(words.count("in"), words.count("breaks")), 30)


class Longest(Asking):
    def test_within(self):
        for name in CREW.names():
            told = self.takes(paper_within(CREW, name))
            self.assertEqual(told[0], ("within", CREW_ROWS, name, worst(CREW, name)[0]))
            self.assertEqual(len(told[1][1]), told[1][0])
            # A lesser number is the stronger claim here.
            self.not_with(told, 3, -1)

    def test_as_long(self):
        for name in CREW.names():
            moments, made = worst(CREW, name)
            told = self.takes(paper_as_long(CREW, name))
            self.assertEqual(told, (("as long", CREW_ROWS, name, moments), made.rows))
            self.not_with(told, 3, 1)

    def test_most(self):
        for ask in (paper_within, paper_as_long):
            self.takes(ask(LONG, "b", most=900))
            self.refuses_many((900, 600), ask, LONG, "b")
            self.refuses_many((900, 899), ask, LONG, "b", most=899)

    def test_refused(self):
        heavy = Crew((Task("a", 9, 5), Task("b", 1, 7), Door("d", 1, 100)))
        late = Crew((Task("a", 2, 10, due=2), Task("b", 2, 10, due=2), Door("d", 1, 10)))
        for ask in (paper_within, paper_as_long):
            for thing in NO_CREWS:
                self.refuses_crew(ask, thing, "a")
                self.refuses_crew(ask, thing, 0, most=0)
            for thing in NO_NAMES + ("x", A):
                self.refuses_name(thing, ask, CREW, thing)
                self.refuses_name(thing, ask, HOLDERS, thing, most=0)
            for thing in NO_WHOLES + (0, -1, 901, HUGE):
                self.refuses_number(thing, ask, HOLDERS, "slow", most=thing)
                self.refuses_number(thing, ask, heavy, "a", most=thing)
            self.refuses(NoPlain, TimeError, ask, HOLDERS, "slow", most=1)
            self.refuses(NoPlain, TimeError, ask, Crew((SLOW, Task("a", 9, 7))), "a")
            self.assertEqual(self.refuses(TooMuch, FullError, ask, heavy, "a").share, heavy.load())
            self.refuses_many((10, 9), ask, late, "a", most=9)
            self.refuses_broken(late, ask, "a")
            self.refuses_broken(late, ask, "d")

    def test_late_without_doors(self):
        late = Crew((Task("a", 2, 10, due=2), Task("b", 2, 10, due=2)))
        for name in "ab":
            told = self.takes(paper_within(late, name))
            self.not_with(told, 3, -1)
            self.not_with(self.takes(paper_as_long(late, name)), 3, 1)
        self.assertEqual(paper_within(late, "b")[0][3], 4)

    def test_any_crews(self):
        source = random.Random(25)
        many = 0
        for time in range(150):
            crew = some_crew(source, holds=0, costs=3)
            top, bottom = crew.load()
            doors = any(isinstance(member, Door) for member in crew.members)
            if top <= bottom and not (doors and lets_in(crew)[0] == "breaks"):
                for name in crew.names():
                    many += 1
                    within = self.takes(paper_within(crew, name))
                    as_long = self.takes(paper_as_long(crew, name))
                    self.assertEqual(within[0][1:], as_long[0][1:])
                    self.assertEqual(within[0][1:3], (plain_rows(crew), name))
                    self.not_with(within, 3, -1)
                    self.not_with(as_long, 3, 1)
        self.assertGreater(many, 100)


class HeldUp(Asking):
    def test_the_longest_of_its_works(self):
        made = Comings(HOLDERS, (("slow", 0, None), ("user", 2, None), ("slow", 60, None), ("user", 63, 1)))
        told = self.takes(paper_held_up(made, "user"))
        self.assertEqual(told, (("held up", plain_rows(HOLDERS), "user", 3), made.rows))
        self.not_with(told, 3, 1)

    def test_none(self):
        for rows in ((), (("slow", 0, None),), (("user", 0, None),), (("slow", 0, None), ("user", 5, None))):
            made = Comings(HOLDERS, rows)
            for name in ("slow", "user"):
                self.assertIsNone(paper_held_up(made, name))
        made = Comings(HOLDERS, (("slow", 0, None), ("user", 2, None)))
        self.assertIsNone(paper_held_up(made, "slow"))

    def test_refused(self):
        made = Comings(HOLDERS, (("slow", 0, None), ("user", 2, None)))
        for thing in NO_CREWS + (made.rows, str(made)):
            if not isinstance(thing, Comings):
                self.assertIsNone(self.refuses(NoComings, TimeError, paper_held_up, thing, "user").number)
                self.assertIsNone(self.refuses(NoComings, TimeError, paper_held_up, thing, None).number)
        for thing in NO_NAMES + ("x", SLOW):
            self.refuses_name(thing, paper_held_up, made, thing)
            self.refuses_name(thing, paper_held_up, Comings(HOLDERS), thing)

    def test_any_crews(self):
        source = random.Random(26)
        many = 0
        for time in range(250):
            crew = some_crew(source, most=4, costs=5, doors=0.2, holds=1, gaps=(10, 12, 15, 20, 30))
            crew = crew.with_member(Task("slow", 19, 60, due=50, holds=some_holds(source, 19)))
            made = Comings(crew, some_rows(source, crew, slack=1, spread=30))
            rows = PlainRun(crew, made.rows).held_up()
            for name in crew.names():
                times = [row[4] for row in rows if row[0] == name]
                told = paper_held_up(made, name)
                if times:
                    many += 1
                    self.takes(told)
                    self.assertEqual(told, (("held up", plain_rows(crew), name, max(times)), made.rows))
                    self.not_with(told, 3, 1)
                else:
                    self.assertIsNone(told)
        self.assertGreater(many, 50)


class Greatest(Asking):
    def check(self, crew, gap, **more):
        told = self.takes(paper_greatest(crew, gap, **more))
        claim, paper = told
        due = more.get("due")
        cost = greatest_cost(crew, gap, **more)
        self.assertEqual(claim, ("greatest", plain_rows(crew), gap, gap if due is None else due, cost))
        self.assertNotIn(paper[0], crew.names())
        self.assertEqual(paper[2] is None, cost == 99)
        self.not_with(told, 4, 1)
        self.not_with(told, 4, -1)
        return cost

    def test_between(self):
        self.assertEqual(self.check(CREW, 10), 1)
        self.assertEqual(self.check(CREW, 30, due=15), 4)
        self.assertEqual(self.check(HOLDERS, 20, due=10), 5)

    def test_none_and_most(self):
        self.assertEqual(self.check(Crew((Task("a", 5, 5),)), 10), 0)
        self.assertEqual(self.check(Crew((Task("a", 5, 5),)), 600, due=1), 0)
        self.assertEqual(self.check(Crew(), 99), 99)
        self.assertEqual(self.check(Crew(), 600), 99)
        self.assertEqual(self.check(Crew(), 98), 98)
        self.assertEqual(self.check(Crew(), 1), 1)

    def test_seven_members(self):
        self.assertEqual(self.check(Crew(tuple([Task(name, 1, 20) for name in "abcdefg"])), 20), 13)

    def test_due_told_and_left_out(self):
        self.assertEqual(paper_greatest(CREW, 10, due=None), paper_greatest(CREW, 10))
        self.assertEqual(paper_greatest(CREW, 10, due=10), paper_greatest(CREW, 10))

    def test_most_told(self):
        crew = Crew((Task("a", 2, 25),))
        self.assertEqual(self.check(crew, 36, most=900), 33)
        self.refuses_many((900, 600), paper_greatest, crew, 36)

    def test_refused(self):
        eight = Crew(tuple([Task(name, 9, 20) for name in "abcdefgh"]))
        for thing in NO_CREWS:
            self.refuses_crew(paper_greatest, thing, 5)
            self.refuses_crew(paper_greatest, thing, 0, due=0, most=0)
        for thing in NO_WHOLES + (0, -1, 601, HUGE):
            self.refuses_number(thing, paper_greatest, eight, thing, due=0, most=0)
        for thing in NO_WHOLES + (0, -1, 11, HUGE):
            if thing is not None:
                self.refuses_number(thing, paper_greatest, eight, 10, due=thing, most=0)
        for thing in NO_WHOLES + (0, -1, 901, HUGE):
            self.refuses_number(thing, paper_greatest, eight, 10, most=thing)
        self.refuses_many((9, 8), paper_greatest, eight, 599)
        self.refuses_many((5990, 600), paper_greatest, BROKEN, 599)
        self.refuses_broken(BROKEN, paper_greatest, 10)

    def test_any_crews(self):
        source = random.Random(27)
        seen = set()
        for time in range(150):
            crew = some_crew(source, gaps=(5, 10, 15, 30), costs=3)
            if lets_in(crew)[0] == "in":
                gap = source.choice((3, 6, 10, 20, 30))
                seen.add(self.check(crew, gap, due=source.choice((None, source.randint(1, gap)))))
        self.assertGreater(len(seen), 5)


class Runs(Asking):
    def test_pieces(self):
        made = Comings(CREW, (("b", 1, None), ("a", 0, None), ("shop", 0, 2)))
        told = self.takes(paper_run(made))
        pieces = ((0, 2, "a", 0), (2, 4, "b", 0), (4, 5, "shop", 0), (10, 11, "shop", 1))
        self.assertEqual(told, (("run", CREW_ROWS, made.rows, pieces), None))
        for other in (pieces[:-1], (*pieces[:-1], (10, 12, "shop", 1)), (*pieces, (11, 12, "shop", 2))):
            self.assertFalse(holds((*told[0][:3], other), None))

    def test_nothing(self):
        self.assertEqual(self.takes(paper_run(Comings(Crew()))), (("run", (), (), ()), None))

    def test_refused(self):
        for thing in NO_CREWS:
            if not isinstance(thing, Comings):
                self.assertIsNone(self.refuses(NoComings, TimeError, paper_run, thing).number)

    def test_any_crews(self):
        source = random.Random(28)
        for time in range(150):
            crew = some_crew(source)
            made = Comings(crew, some_rows(source, crew))
            told = self.takes(paper_run(made))
            self.assertEqual(told, (("run", plain_rows(crew), made.rows, PlainRun(crew, made.rows).pieces()), None))


if __name__ == "__main__":
    unittest.main()
