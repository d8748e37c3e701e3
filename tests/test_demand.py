"""Let in or broken (points 13 and 14, and point 2 for them; point 3 as far as it leans on them)."""

import inspect
import random
import unittest

from duetimes import demand as demands
from duetimes.comings import Comings
from duetimes.crews import Crew
from duetimes.demand import blocking, demand, lets_in
from duetimes.errors import FullError, NoCrew, NoNumber, TimeError, TooMany
from duetimes.members import Door, Task
from plain import PlainRun, cost_of, plain_blocking, plain_demand, plain_least, some_crew, some_rows
from things import HUGE, NO_WHOLES

SAW = Task("saw", 3, 10, due=8)
OVEN = Task("oven", 5, 7)
SHOP = Door("shop", 4, 20)
CREW = Crew((SAW, OVEN, SHOP))
MOST = 10 ** 6

SLOW = Task("slow", 6, 60, due=50, holds=(("t", 1, 4),))
USER = Task("user", 2, 20, due=10, holds=(("t", 0, 1),))


class Asking(unittest.TestCase):
    def refuses_crew(self, ask, *row, **more):
        with self.assertRaises(NoCrew) as caught:
            ask(*row, **more)
        self.assertIsInstance(caught.exception, TimeError)
        self.assertIsNone(caught.exception.name)

    def refuses_number(self, number, ask, *row, **more):
        with self.assertRaises(NoNumber) as caught:
            ask(*row, **more)
        self.assertIsInstance(caught.exception, TimeError)
        self.assertIs(caught.exception.number, number)

    def check_breaks(self, crew, told, long):
        self.assertIsInstance(told, tuple)
        self.assertEqual(told[:2], ("breaks", long))
        self.assertEqual(len(told), 3)
        made = told[2]
        self.assertIsInstance(made, Comings)
        self.assertEqual(made.crew, crew)
        self.assertEqual(made.rows[0][1], 0)
        self.assertLessEqual(made.rows[-1][1], long + max([cost_of(member) for member in crew.members]))
        self.assertTrue(PlainRun(crew, made.rows).late())


class Interface(Asking):
    def test_the_functions_stand_in_this_file(self):
        for name, found, row in (
            ("demand", demand, "(crew, long)"),
            ("blocking", blocking, "(crew, long)"),
            ("lets_in", lets_in, "(crew, *, most=600)"),
        ):
            self.assertEqual(found.__module__, "duetimes.demand")
            self.assertIs(getattr(demands, name), found)
            self.assertEqual(str(inspect.signature(found)), row)

    def test_by_place_and_by_name(self):
        for ask in (demand, blocking):
            told = ask(CREW, 9)
            self.assertEqual(ask(CREW, long=9), told)
            self.assertEqual(ask(long=9, crew=CREW), told)
        self.assertEqual(lets_in(crew=Crew(), most=1), ("in",))
        with self.assertRaises(TypeError):
            lets_in(Crew(), 600)

    def test_what_is_no_crew(self):
        for thing in NO_WHOLES + (0, HUGE, SAW, CREW.members, str(CREW), Crew, Comings(CREW)):
            for ask in (demand, blocking):
                self.refuses_crew(ask, thing, 1)
                self.refuses_crew(ask, thing, None)
            self.refuses_crew(lets_in, thing)
            self.refuses_crew(lets_in, thing, most=None)

    def test_what_is_no_long(self):
        for thing in NO_WHOLES + (0, -1, MOST + 1, HUGE, -HUGE):
            for ask in (demand, blocking):
                for crew in (CREW, Crew()):
                    self.refuses_number(thing, ask, crew, thing)


class Demand(Asking):
    def test_at_dues_and_around_them(self):
        for long, told in (
            (1, 0), (6, 0), (7, 5), (8, 8), (9, 8), (13, 8), (14, 13), (17, 13), (18, 16), (19, 16), (20, 20), (21, 25),
        ):
            self.assertEqual(demand(CREW, long), told)

    def test_one_task(self):
        crew = Crew((Task("a", 4, 9, due=3),))
        for long in range(1, 100):
            self.assertEqual(demand(crew, long), 4 * len([moment for moment in range(0, 200, 9) if moment + 3 <= long]))

    def test_a_door_is_due_by_its_gap(self):
        self.assertEqual([demand(Crew((SHOP,)), long) for long in (1, 19, 20, 39, 40, 41)], [0, 0, 4, 4, 8, 8])

    def test_the_least_and_the_last(self):
        crew = Crew((Task("a", 99, 1), Task("b", 7, 600, due=1), Door("c", 5, 600)))
        self.assertEqual(demand(crew, 1), 106)
        self.assertEqual(demand(crew, MOST), 99 * MOST + 7 * 1667 + 5 * 1666)
        self.assertEqual(demand(crew, MOST - 399), 99 * (MOST - 399) + 7 * 1667 + 5 * 1666)
        self.assertEqual(demand(crew, MOST - 400), 99 * (MOST - 400) + 7 * 1666 + 5 * 1666)

    def test_of_nobody(self):
        for long in (1, 600, MOST):
            self.assertEqual(demand(Crew(), long), 0)

    def test_as_plainly_counted(self):
        chance = random.Random(3)
        for time in range(200):
            crew = some_crew(chance, most=8, gaps=range(1, 30), costs=20)
            for long in range(1, 80):
                self.assertEqual(demand(crew, long), plain_demand(crew, long))


class Blocking(Asking):
    def test_stretches_around_each_due_and_level(self):
        crew = Crew((SLOW, USER))
        for long, told in (
            (1, (0, None, None)), (9, (0, None, None)), (10, (3, "slow", 2)), (11, (3, "slow", 2)),
            (49, (3, "slow", 2)), (50, (0, None, None)), (51, (0, None, None)), (MOST, (0, None, None)),
        ):
            self.assertEqual(blocking(crew, long), told)

    def test_without_any(self):
        for crew in (Crew(), CREW, Crew((SLOW,)), Crew((SHOP,)), Crew((USER, SHOP))):
            for long in (1, 9, 10, 49, 50, 600, MOST):
                self.assertEqual(blocking(crew, long), (0, None, None))

    def test_a_hold_of_one_moment_is_never_held_at_a_point(self):
        slow = Task("slow", 3, 60, holds=(("t", 0, 1), ("t", 1, 1), ("t", 2, 1)))
        self.assertEqual(blocking(Crew((slow, USER)), 10), (0, None, None))

    def test_holds_side_by_side_part(self):
        slow = Task("slow", 9, 60, holds=(("t", 0, 3), ("t", 3, 5)))
        self.assertEqual(blocking(Crew((slow, USER)), 10), (4, "slow", 4))
        slow = Task("slow", 9, 60, holds=(("t", 0, 5), ("t", 5, 3)))
        self.assertEqual(blocking(Crew((slow, USER)), 10), (4, "slow", 1))

    def test_several_tools_one_behind_the_other(self):
        other = Task("other", 1, 30, due=20, holds=(("s", 0, 1),))
        slow = Task("slow", 12, 60, holds=(("s", 3, 5), ("t", 0, 5)))
        crew = Crew((slow, USER, other))
        # t at 1 to 4 with level 10, s at 4 to 7 with level 20.
        self.assertEqual(blocking(crew, 10), (4, "slow", 1))
        self.assertEqual(blocking(crew, 19), (4, "slow", 1))
        self.assertEqual(blocking(crew, 20), (7, "slow", 1))
        apart = Crew((Task("slow", 12, 60, holds=(("s", 4, 5), ("t", 0, 5))), USER, other))
        self.assertEqual(blocking(apart, 20), (8, "slow", 1))
        apart = Crew((Task("slow", 12, 60, holds=(("s", 5, 5), ("t", 0, 5))), USER, other))
        self.assertEqual(blocking(apart, 20), (4, "slow", 1))

    def test_the_first_member_and_the_least_done(self):
        slow = Task("slow", 9, 60, holds=(("t", 0, 3), ("t", 4, 3)))
        more = Task("more", 9, 60, holds=(("t", 5, 3),))
        self.assertEqual(blocking(Crew((slow, more, USER)), 10), (2, "slow", 1))
        self.assertEqual(blocking(Crew((more, slow, USER)), 10), (2, "more", 6))
        most = Task("most", 9, 60, holds=(("t", 2, 4),))
        self.assertEqual(blocking(Crew((slow, more, USER, most)), 10), (3, "most", 3))

    def test_doors_do_not_hold_and_have_no_level(self):
        crew = Crew((SLOW, Task("a", 1, 60, due=30, holds=(("t", 0, 1),)), Door("d", 5, 5)))
        self.assertEqual(blocking(crew, 5), (0, None, None))
        self.assertEqual(blocking(crew, 29), (0, None, None))
        self.assertEqual(blocking(crew, 30), (3, "slow", 2))

    def test_as_plainly_counted(self):
        chance = random.Random(4)
        many = 0
        for time in range(300):
            crew = some_crew(chance, most=6, gaps=range(6, 30), costs=9, holds=0.9)
            for long in range(1, 32):
                told = plain_blocking(crew, long)
                self.assertEqual(blocking(crew, long), told)
                many += told[0] > 0
        self.assertGreater(many, 500)


class LetIn(Asking):
    def test_of_nobody(self):
        self.assertEqual(lets_in(Crew()), ("in",))
        self.assertEqual(lets_in(Crew(), most=1), ("in",))

    def test_let_in(self):
        for crew in (
            Crew((SAW,)), Crew((SHOP,)), Crew((SLOW, USER)), Crew((Task("a", 1, 1),)), Crew((Task("a", 99, 600, due=99),)),
            Crew((Task("a", 2, 4), Task("b", 2, 4))), Crew((Task("a", 2, 4, due=2), Task("b", 2, 4))),
            Crew((Task("a", 3, 6), Door("b", 2, 4))), Crew(tuple([Door(name, 1, 8) for name in "abcdefgh"])),
        ):
            told = lets_in(crew)
            self.assertEqual(told, ("in",))
            self.assertIsInstance(told, tuple)

    def test_breaks_by_demand_alone(self):
        for crew, long in (
            (Crew((Task("a", 2, 9, due=1),)), 1),
            (Crew((Task("a", 9, 9, due=8),)), 8),
            (Crew((Door("a", 9, 8),)), 8),
            (Crew((Task("a", 2, 4, due=2), Task("b", 2, 4, due=3))), 3),
            (Crew((Task("a", 3, 4), Task("b", 2, 6))), 12),
            (Crew((Door("a", 3, 4), Task("b", 2, 6))), 12),
            (Crew(tuple([Task(name, 1, 1) for name in "abcdefgh"])), 1),
            (Crew(tuple([Task(name, 99, 600) for name in "abcdefgh"])), 600),
        ):
            told = lets_in(crew)
            self.check_breaks(crew, told, long)
            self.assertEqual(blocking(crew, long)[0], 0)

    def test_breaks_by_blocking(self):
        for crew, long in (
            (Crew((SLOW, Task("user", 8, 20, due=10, holds=(("t", 0, 1),)))), 10),
            (Crew((SLOW, Task("user", 1, 20, due=3, holds=(("t", 0, 1),)))), 3),
            (Crew((SLOW, Task("user", 1, 20, due=1, holds=(("t", 0, 1),)))), 1),
            (Crew((Door("d", 7, 10), SLOW, Task("user", 1, 20, due=10, holds=(("t", 0, 1),)))), 10),
            (Crew((SLOW, Task("user", 6, 20, due=10, holds=(("t", 0, 1),)), Task("a", 3, 20, due=11))), 11),
        ):
            self.check_breaks(crew, lets_in(crew), long)
            self.assertGreater(blocking(crew, long)[0], 0)
            self.assertLessEqual(demand(crew, long), long)

    def test_blocking_just_fits(self):
        for cost, word in ((6, "in"), (7, "in"), (8, "breaks")):
            crew = Crew((SLOW, Task("user", cost, 20, due=10, holds=(("t", 0, 1),))))
            self.assertEqual(lets_in(crew)[0], word)

    def test_the_least_long_is_told_though_greater_ones_are_too_short_too(self):
        crew = Crew((Task("a", 5, 10, due=4), Task("b", 9, 10, due=9), Task("c", 2, 10, due=1)))
        self.check_breaks(crew, lets_in(crew), 1)

    def test_comings_of_the_document(self):
        # The task that blocks comes alone; when it has been served to DONE the others come, and each GAP again.
        crew = Crew((Task("slow", 9, 60, holds=(("t", 4, 5),)), Task("a", 2, 5, due=3, holds=(("t", 0, 1),)), SHOP))
        told = lets_in(crew)
        self.check_breaks(crew, told, 3)
        self.assertEqual(blocking(crew, 3), (4, "slow", 5))

    def test_most(self):
        crew = Crew((Task("a", 1, 20), Task("b", 1, 30)))
        for most in (60, 61, 599, 600, 601, 899, 900):
            self.assertEqual(lets_in(crew, most=most), ("in",))
        for most in (1, 2, 59):
            with self.assertRaises(TooMany) as caught:
                lets_in(crew, most=most)
            self.assertIsInstance(caught.exception, FullError)
            self.assertEqual((caught.exception.many, caught.exception.most), (60, most))

    def test_most_left_out(self):
        self.assertEqual(lets_in(Crew((Task("a", 1, 600),))), ("in",))
        crew = Crew((Task("a", 1, 100), Task("b", 1, 450)))
        with self.assertRaises(TooMany) as caught:
            lets_in(crew)
        self.assertEqual((caught.exception.many, caught.exception.most), (900, 600))
        self.assertEqual(lets_in(crew, most=900), ("in",))

    def test_most_refused(self):
        for thing in NO_WHOLES + (0, -1, 901, HUGE, -HUGE):
            for crew in (Crew(), CREW, Crew((Task("a", 1, 599), Task("b", 1, 600)))):
                self.refuses_number(thing, lets_in, crew, most=thing)

    def test_at_the_last_stretch_of_most(self):
        crew = Crew((Task("a", 78, 100), Task("b", 99, 450)))
        self.assertEqual(crew.load(), (1, 1))
        self.assertEqual(lets_in(crew, most=900), ("in",))
        crew = Crew((Task("a", 79, 100), Task("b", 99, 450)))
        self.check_breaks(crew, lets_in(crew, most=900), 900)

    def test_told_the_same_each_time_and_nothing_changed(self):
        crew = Crew((SLOW, Task("user", 8, 20, due=10, holds=(("t", 0, 1),))))
        row = str(crew)
        self.assertEqual(lets_in(crew), lets_in(crew))
        self.assertEqual(str(crew), row)


class Whatever(Asking):
    def test_as_plainly_counted_and_by_runs(self):
        chance = random.Random(5)
        seen = {}
        for time in range(700):
            crew = some_crew(
                chance, most=5, costs=chance.choice((2, 4, 8)), doors=chance.choice((0, 0.3)), holds=chance.choice((0, 1)),
            )
            told = lets_in(crew)
            least = plain_least(crew, 2 * crew.stretch())
            if least is None:
                self.assertEqual(told, ("in",))
                for again in range(2):
                    self.assertEqual(PlainRun(crew, some_rows(chance, crew, slack=0.2)).late(), ())
                kind = "in"
            else:
                self.check_breaks(crew, told, least)
                kind = "demand" if plain_demand(crew, least) > least else "blocking"
            seen[kind] = seen.get(kind, 0) + 1
        self.assertGreater(min([seen[kind] for kind in ("in", "demand", "blocking")]), 30)


if __name__ == "__main__":
    unittest.main()
