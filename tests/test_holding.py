"""Who holds what (point 12, and points 2 and 3 for it)."""

import inspect
import random
import unittest

from duetimes import holding
from duetimes.comings import Comings
from duetimes.crews import Crew
from duetimes.demand import lets_in
from duetimes.errors import LostError, NoCrew, NoName, NoNumber, NoRun, TimeError
from duetimes.holding import held_up, holders, most_held_up
from duetimes.members import Door, Task
from duetimes.runs import played
from plain import PlainRun, due_of, level, place, some_crew, some_holds, some_rows, tools_at
from things import HUGE, NO_NAMES, NO_WHOLES

SLOW = Task("slow", 9, 60, due=50, holds=(("s", 0, 3), ("s", 3, 3), ("t", 2, 5)))
USER = Task("user", 3, 20, due=10, holds=(("t", 0, 3),))
FAST = Task("fast", 2, 20, due=5)
DOOR = Door("d", 3, 12)
CREW = Crew((SLOW, USER, FAST, DOOR))


def run_of(crew, *rows, until=None):
    return played(Comings(crew, rows), until=until)


def plain_most(crew, name):
    """Point 12's words, by each first and last DONE."""
    due = due_of(crew.members[place(crew, name)])
    best = 0
    for member in crew.members:
        if isinstance(member, Task) and member.due > due:
            for first in range(member.cost + 1):
                for last in range(first, member.cost + 1):
                    if all(
                        any(level(crew, tool) < member.due for tool in tools_at(member, done))
                        for done in range(first, last + 1)
                    ):
                        best = max(best, last - first + 1)
    return best


class Asking(unittest.TestCase):
    def refuses_run(self, ask, *row, **more):
        with self.assertRaises(NoRun) as caught:
            ask(*row, **more)
        self.assertIsInstance(caught.exception, TimeError)


class Interface(Asking):
    def test_the_functions_stand_in_this_file(self):
        for name, found, row in (
            ("holders", holders, "(run, point)"),
            ("held_up", held_up, "(run)"),
            ("most_held_up", most_held_up, "(crew, name)"),
        ):
            self.assertEqual(found.__module__, "duetimes.holding")
            self.assertIs(getattr(holding, name), found)
            self.assertEqual(str(inspect.signature(found)), row)

    def test_by_place_and_by_name(self):
        run = run_of(CREW, ("slow", 0, None))
        self.assertEqual(holders(point=1, run=run), holders(run, 1))
        self.assertEqual(held_up(run=run), ())
        self.assertEqual(most_held_up(name="user", crew=CREW), most_held_up(CREW, "user"))

    def test_what_is_no_run(self):
        made = Comings(CREW, (("slow", 0, None),))
        for thing in NO_WHOLES + (0, HUGE, made, CREW, played(made).pieces, str(played(made)), type(played(made))):
            self.refuses_run(holders, thing, 0)
            self.refuses_run(holders, thing, None)
            self.refuses_run(held_up, thing)


class Holders(Asking):
    def test_at_every_point_of_one_work(self):
        run = run_of(CREW, ("slow", 0, None))
        s, t = ("s", "slow", 0), ("t", "slow", 0)
        told = [(), (s,), (s,), (t,), (s, t), (s, t), (t,), (), (), ()]
        self.assertEqual([holders(run, point) for point in range(10)], told)
        for row in told:
            self.assertIsInstance(holders(run, told.index(row)), tuple)

    def test_while_another_is_served(self):
        # fast is above the levels, so it goes ahead while slow keeps what it holds.
        run = run_of(CREW, ("slow", 0, None), ("fast", 4, None))
        self.assertEqual(run.pieces, ((0, 4, "slow", 0), (4, 6, "fast", 0), (6, 11, "slow", 0)))
        both = (("s", "slow", 0), ("t", "slow", 0))
        self.assertEqual([holders(run, point) for point in (4, 5, 6, 7)], [both, both, both, both])
        self.assertEqual(holders(run, 8), (("t", "slow", 0),))

    def test_two_that_hold_apart(self):
        crew = Crew((
            Task("slow", 9, 60, holds=(("z", 0, 9),)), Task("z", 2, 60, due=40, holds=(("z", 0, 1),)),
            Task("mid", 5, 30, due=20, holds=(("a", 0, 5),)), Task("a", 2, 60, due=15, holds=(("a", 0, 1),)),
        ))
        run = run_of(crew, ("slow", 0, None), ("mid", 3, None))
        self.assertEqual(holders(run, 5), (("a", "mid", 0), ("z", "slow", 0)))
        self.assertEqual(holders(run, 8), (("z", "slow", 0),))

    def test_rising_by_tool_and_by_number_of_its_work(self):
        run = run_of(CREW, ("slow", 0, 1), ("slow", 60, None))
        self.assertEqual(holders(run, 64), (("s", "slow", 1), ("t", "slow", 1)))

    def test_what_is_ended_holds_nothing(self):
        run = run_of(CREW, ("slow", 0, 4), ("fast", 4, 1))
        self.assertEqual([holders(run, point) for point in (3, 4, 5)], [(("t", "slow", 0),), (), ()])

    def test_a_run_that_is_cut(self):
        run = run_of(CREW, ("slow", 0, 9), until=4)
        self.assertEqual(holders(run, 4), (("s", "slow", 0), ("t", "slow", 0)))
        run = run_of(CREW, ("slow", 0, 4), until=4)
        self.assertEqual(holders(run, 4), ())
        run = run_of(CREW, ("slow", 0, 9), until=500)
        self.assertEqual([holders(run, point) for point in (9, 100, 500)], [(), (), ()])

    def test_nobody(self):
        self.assertEqual(holders(run_of(CREW), 0), ())
        self.assertEqual(holders(run_of(Crew()), 0), ())
        self.assertEqual(holders(run_of(CREW, ("d", 0, 3)), 1), ())

    def test_what_is_no_point(self):
        for run in (run_of(CREW, ("slow", 0, 4)), run_of(CREW, ("slow", 0, 9), until=4)):
            for point in NO_WHOLES + (-1, 5, 6, HUGE, -HUGE):
                with self.assertRaises(NoNumber) as caught:
                    holders(run, point)
                self.assertIsInstance(caught.exception, TimeError)
                self.assertIs(caught.exception.number, point)
            holders(run, 4)
        with self.assertRaises(NoNumber):
            holders(run_of(CREW), 1)


class HeldUp(Asking):
    def test_nobody(self):
        for run in (run_of(CREW), run_of(CREW, ("slow", 0, None)), run_of(CREW, ("slow", 0, None), ("fast", 4, None))):
            self.assertEqual(held_up(run), ())
            self.assertIsInstance(held_up(run), tuple)

    def test_one(self):
        # slow holds t when it has been served 3 to 6 moments.
        for moment, told in (
            (2, ()), (3, (("user", 0, "slow", 0, 4),)), (4, (("user", 0, "slow", 0, 3),)), (6, (("user", 0, "slow", 0, 1),)),
            (7, ()),
        ):
            self.assertEqual(held_up(run_of(CREW, ("slow", 0, None), ("user", moment, None))), told)

    def test_one_that_does_not_use_the_tool(self):
        run = run_of(CREW, ("slow", 0, None), ("d", 4, 2))
        self.assertEqual(held_up(run), (("d", 0, "slow", 0, 3),))

    def test_all_that_wait_ahead_of_it(self):
        # fast, due at 13, isn't held up itself, but waits with user, due at 12.
        crew = CREW.with_member(Task("fast", 2, 20, due=9))
        run = run_of(crew, ("slow", 0, None), ("user", 2, None), ("user", 22, None))
        self.assertEqual(held_up(run), ())
        run = run_of(crew, ("slow", 0, None), ("user", 3, None), ("fast", 5, None))
        self.assertEqual(run.pieces[0], (0, 7, "slow", 0))
        self.assertEqual(held_up(run), (("fast", 0, "slow", 0, 2), ("user", 0, "slow", 0, 4)))
        # One behind slow itself only waits its turn.
        crew = CREW.with_member(Task("lazy", 1, 60))
        run = run_of(crew, ("slow", 0, None), ("user", 3, None), ("lazy", 3, None))
        self.assertEqual(held_up(run), (("user", 0, "slow", 0, 4),))

    def test_numbers_of_both(self):
        run = run_of(CREW, ("user", 0, 1), ("slow", 5, 2), ("slow", 65, None), ("user", 70, None), ("user", 40, 1))
        self.assertEqual(held_up(run), (("user", 2, "slow", 1, 2),))

    def test_rising(self):
        run = run_of(CREW, ("slow", 0, None), ("user", 3, None), ("d", 4, 3), ("slow", 60, None), ("user", 65, None))
        self.assertEqual(held_up(run), (
            ("d", 0, "slow", 0, 3), ("user", 0, "slow", 0, 4), ("user", 1, "slow", 1, 2),
        ))

    def test_by_parts_of_a_piece_and_by_several_pieces(self):
        # fast comes between and is served while slow still holds t.
        crew = CREW.with_member(Task("fast", 1, 20, due=2))
        run = run_of(crew, ("slow", 0, None), ("user", 3, None), ("fast", 5, None))
        self.assertEqual(run.pieces[:3], ((0, 5, "slow", 0), (5, 6, "fast", 0), (6, 8, "slow", 0)))
        self.assertEqual(held_up(run), (("user", 0, "slow", 0, 4),))

    def test_a_run_that_is_cut(self):
        for until, told in ((3, ()), (4, 1), (5, 2), (7, 4), (8, 4), (None, 4)):
            run = run_of(CREW, ("slow", 0, None), ("user", 3, None), until=until)
            self.assertEqual(held_up(run), (("user", 0, "slow", 0, told),) if told else ())

    def test_due_at_once(self):
        # Of those due at once the lesser number is ahead, so only that one is held up by the other.
        slow = Task("slow", 9, 60, due=20, holds=(("t", 0, 9),))
        user = Task("user", 3, 60, due=15, holds=(("t", 0, 3),))
        self.assertEqual(held_up(run_of(Crew((user, slow)), ("slow", 0, None), ("user", 5, None))), (
            ("user", 0, "slow", 0, 4),
        ))
        self.assertEqual(held_up(run_of(Crew((slow, user)), ("slow", 0, None), ("user", 5, None))), ())


class MostHeldUp(Asking):
    def test_tasks_and_doors(self):
        # s is slow's alone, so its level is not below slow's DUE; t has 10.
        for name, told in (("slow", 0), ("user", 4), ("fast", 4), ("d", 4)):
            self.assertEqual(most_held_up(CREW, name), told)

    def test_only_by_those_with_a_greater_due(self):
        more = CREW.with_member(Task("same", 1, 60, due=50)).with_member(Task("last", 1, 60, due=51))
        self.assertEqual([most_held_up(more, name) for name in ("same", "last")], [0, 0])
        self.assertEqual(most_held_up(CREW.with_member(Task("near", 1, 60, due=49)), "near"), 4)
        self.assertEqual(most_held_up(CREW.with_member(Door("near", 1, 49)), "near"), 4)
        self.assertEqual(most_held_up(CREW.with_member(Door("near", 1, 50)), "near"), 0)

    def test_several_tools_not_always_the_same(self):
        user = Task("user", 3, 20, due=10, holds=(("s", 0, 1), ("t", 0, 3)))
        crew = Crew((SLOW, user, FAST))
        # s at 1, 2, 4 and 5, t at 3 to 6.
        self.assertEqual([most_held_up(crew, name) for name in crew.names()], [0, 6, 6])

    def test_levels_above_the_due_of_name_count_too(self):
        crew = Crew((
            Task("slow", 9, 60, holds=(("t", 0, 6),)), Task("mid", 1, 60, due=30, holds=(("t", 0, 1),)), Task("a", 1, 9),
        ))
        self.assertEqual(most_held_up(crew, "a"), 5)
        run = run_of(crew, ("slow", 0, None), ("mid", 1, None), ("a", 25, None))
        self.assertEqual(held_up(run), (("mid", 0, "slow", 0, 5),))

    def test_without_any(self):
        self.assertEqual(most_held_up(Crew((FAST, DOOR)), "d"), 0)
        self.assertEqual(most_held_up(Crew((SLOW, FAST)), "fast"), 0)
        equal = Crew((Task("x", 5, 9, holds=(("t", 0, 5),)), Task("y", 5, 9, holds=(("t", 0, 5),)), Task("z", 1, 3)))
        self.assertEqual([most_held_up(equal, name) for name in "xyz"], [0, 0, 0])

    def test_as_plainly_counted(self):
        chance = random.Random(41)
        many = 0
        for time in range(400):
            crew = some_crew(chance, most=6, costs=9, gaps=range(9, 30), holds=0.9, doors=0.2)
            for name in crew.names():
                told = plain_most(crew, name)
                self.assertEqual(most_held_up(crew, name), told)
                many += told > 0
        self.assertGreater(many, 200)

    def test_what_is_no_crew(self):
        for thing in NO_WHOLES + (0, HUGE, SLOW, CREW.members, str(CREW), Crew):
            for name in ("user", None):
                with self.assertRaises(NoCrew) as caught:
                    most_held_up(thing, name)
                self.assertIsNone(caught.exception.name)

    def test_what_is_no_name(self):
        for crew in (Crew(), CREW):
            for name in NO_NAMES + ("t", "s", "nobody", SLOW, ("slow",)):
                with self.assertRaises(NoName) as caught:
                    most_held_up(crew, name)
                self.assertIsInstance(caught.exception, LostError)
                self.assertIs(caught.exception.name, name)


class Promised(Asking):
    def check_holders(self, run, plain):
        for point in range(plain.last):
            told = holders(run, point)
            self.assertEqual(told, plain.holders(point))
            tools = [row[0] for row in told]
            self.assertEqual(len(tools), len(set(tools)))
            note, who = plain.moments[point]
            if who is not None:
                done = dict(note)[who]
                member = run.comings.crew.named(who[0])
                spans = member.holds if isinstance(member, Task) else ()
                inside = [tool for tool, start, long in spans if start <= done < start + long]
                for tool, *other in told:
                    self.assertFalse(tool in inside and tuple(other) != who)

    def check_held_up(self, run, plain):
        told = held_up(run)
        self.assertEqual(told, plain.held_up())
        self.assertEqual(len({row[:2] for row in told}), len(told))
        works = {row[:2]: row for row in run.works}
        for name, number, by, other, moments in told:
            self.assertLessEqual(moments, most_held_up(run.comings.crew, name))
            begins = works[(name, number)][4]
            after = run.last if begins is None else begins
            ahead = [max(0, min(end, after) - max(start, works[(name, number)][2]))
                     for start, end, *who in run.pieces if tuple(who) == (by, other)]
            self.assertEqual(sum(ahead), moments)
        return len(told)

    def test_in_runs_of_any_crews(self):
        chance = random.Random(42)
        many = held = 0
        for time in range(400):
            crew = some_crew(chance, most=4, costs=5, doors=0.2, holds=1, gaps=(10, 12, 15, 20, 30))
            slow = Task("slow", 19, 60, due=chance.randint(20, 60), holds=some_holds(chance, 19))
            crew = crew.with_member(slow)
            rows = some_rows(chance, crew, slack=1, spread=30)
            until = chance.choice((None, None, chance.randint(0, 60)))
            run, plain = run_of(crew, *rows, until=until), PlainRun(crew, rows, until)
            self.check_holders(run, plain)
            many += self.check_held_up(run, plain)
            held += lets_in(crew)[0] == "in"
            if until is None:
                self.assertEqual(holders(run, run.last), ())
        self.assertGreater(many, 100)
        self.assertGreater(held, 20)

    def test_nothing_is_changed(self):
        run = run_of(CREW, ("slow", 0, None), ("user", 3, None))
        before = (str(run), run.works, str(CREW))
        self.assertEqual([holders(run, 4), held_up(run)], [holders(run, 4), held_up(run)])
        most_held_up(CREW, "user")
        self.assertEqual((str(run), run.works, str(CREW)), before)


if __name__ == "__main__":
    unittest.main()
