"""The longest (point 15, and points 2 and 3 for it)."""

import inspect
import random
import unittest

from duetimes import worst as worsts
from duetimes.comings import Comings
from duetimes.crews import Crew
from duetimes.demand import lets_in
from duetimes.errors import (
    Breaks, FullError, LostError, NoCrew, NoName, NoNumber, NoPlain, TimeError, TooMany, TooMuch,
)
from duetimes.members import Door, Task
from duetimes.worst import worst
from plain import PlainRun, due_of, pick, place, some_crew, some_rows, turn
from things import HUGE, NO_NAMES, NO_WHOLES

SAW = Task("saw", 3, 10, due=8)
HOLDER = Task("holder", 2, 20, holds=(("t", 0, 1),))


def longest_of_all(crew):
    """The longest of each task, by going through all that can come to tasks of full NEEDs, state by state."""
    start = tuple([(member.gap, ()) for member in crew.members])
    longest = [0] * len(crew)
    seen = {start}
    ahead = [start]
    while ahead:
        state = ahead.pop()
        for chosen in range(2 ** len(crew)):
            coming = [bool(chosen >> at & 1) for at in range(len(crew))]
            if all(not come or since >= member.gap for come, (since, works), member in zip(coming, state, crew.members)):
                told = next_state(crew, state, coming, longest)
                if told not in seen:
                    seen.add(told)
                    ahead.append(told)
    return longest


def next_state(crew, state, coming, longest):
    """One moment on; notes what is ended. Of each member how long ago one came, and of its works their (AGE, DONE)."""
    state = [
        (0, (*works, (0, 0))) if come else (since, works) for come, (since, works) in zip(coming, state)
    ]
    waiting = [(at, age, done) for at, (since, works) in enumerate(state) for age, done in works]
    rows = [(crew.members[at].name, 1000 - age, done) for at, age, done in waiting]
    told = pick(crew, rows)
    found = [[] for member in crew.members]
    for number, (at, age, done) in enumerate(waiting):
        done += told[0] == number
        if done == crew.members[at].cost:
            longest[at] = max(longest[at], age + 1)
        else:
            found[at].append((age + 1, done))
    return tuple([
        (min(since + 1, member.gap), tuple(own)) for (since, works), member, own in zip(state, crew.members, found)
    ])


class Asking(unittest.TestCase):
    def check(self, crew, name, most=600):
        """That the comings told are so; tells the moments."""
        told = worst(crew, name, most=most)
        self.assertIsInstance(told, tuple)
        self.assertEqual(len(told), 2)
        moments, made = told
        self.assertIsInstance(moments, int)
        self.assertIsInstance(made, Comings)
        self.assertEqual(made.crew, crew)
        self.assertEqual(made.rows[0][1], 0)
        run = PlainRun(crew, made.rows)
        taken = [(ends - comes, ends) for own, number, comes, due, begins, ends in run.work_rows() if own == name]
        self.assertEqual(max(taken)[0], moments)
        self.assertLessEqual(made.rows[-1][1], max([ends for many, ends in taken if many == moments]))
        return moments

    def refuses(self, kind, family, ask):
        with self.assertRaises(kind) as caught:
            ask()
        self.assertIsInstance(caught.exception, family)
        return caught.exception


class Interface(unittest.TestCase):
    def test_the_function_stands_in_this_file(self):
        self.assertEqual(worst.__module__, "duetimes.worst")
        self.assertIs(worsts.worst, worst)
        self.assertEqual(str(inspect.signature(worst)), "(crew, name, *, most=600)")

    def test_by_place_and_by_name(self):
        crew = Crew((SAW,))
        for told in (worst(crew, name="saw"), worst(name="saw", crew=crew), worst(most=10, name="saw", crew=crew)):
            self.assertEqual(told, worst(crew, "saw"))
        with self.assertRaises(TypeError):
            worst(crew, "saw", 600)


class Longest(Asking):
    def test_one_member(self):
        for cost in (1, 2, 8, 9):
            for gap in (9, 10, 600):
                for member in (Task("a", cost, gap), Task("a", cost, gap, due=1), Door("a", cost, gap)):
                    self.assertEqual(self.check(Crew((member,)), "a"), cost)

    def test_tasks_alone(self):
        crew = Crew((Task("a", 2, 5), Task("b", 2, 6, due=5), Task("c", 1, 4, due=3)))
        self.assertEqual([self.check(crew, name) for name in "abc"], [4, 5, 3])
        crew = Crew((Task("a", 1, 4), Task("b", 2, 6), Task("c", 3, 9)))
        self.assertEqual([self.check(crew, name) for name in "abc"], longest_of_all(crew))

    def test_a_coming_behind_the_begin_takes_longest(self):
        # Coming with all others b takes 4, but behind them 5.
        crew = Crew((Task("a", 2, 4), Task("b", 3, 7, due=7)))
        self.assertEqual([self.check(crew, name) for name in "ab"], longest_of_all(crew))
        found = 0
        chance = random.Random(2)
        for time in range(300):
            crew = some_crew(chance, most=3, gaps=(3, 4, 5, 7), doors=0, holds=0, costs=3)
            if crew.load()[0] <= crew.load()[1]:
                for member in crew.members:
                    moments, made = worst(crew, member.name)
                    rows = [row for row in PlainRun(crew, made.rows).work_rows() if row[0] == member.name]
                    found += all([row[5] - row[2] < moments for row in rows if row[2] == 0])
        self.assertGreater(found, 0)

    def test_load_just_one(self):
        for members in (
            (Task("a", 1, 1),), (Task("a", 2, 4), Task("b", 2, 4)), (Task("a", 1, 2), Task("b", 2, 4)),
            (Task("a", 1, 2), Task("b", 1, 3), Task("c", 1, 6)), (Task("a", 3, 6, due=3), Task("b", 2, 4)),
        ):
            crew = Crew(members)
            self.assertEqual(crew.load(), (1, 1))
            self.assertEqual([self.check(crew, name) for name in crew.names()], longest_of_all(crew))

    def test_dues_alike_go_by_number(self):
        crew = Crew((Task("a", 2, 8, due=6), Task("b", 3, 8, due=6)))
        self.assertEqual([self.check(crew, name) for name in "ab"], [4, 5])
        turned = Crew(crew.members[::-1])
        self.assertEqual([self.check(turned, name) for name in "ab"], [5, 4])
        three = Crew(tuple([Task(name, 1, 3) for name in "abc"]))
        self.assertEqual([self.check(three, name) for name in "abc"], longest_of_all(three))

    def test_tasks_that_are_late(self):
        # Without doors a crew need not be let in.
        crew = Crew((Task("a", 4, 8, due=1), Task("b", 4, 8, due=1)))
        self.assertEqual(lets_in(crew)[0], "breaks")
        self.assertEqual([self.check(crew, name) for name in "ab"], longest_of_all(crew))
        self.assertEqual(self.check(crew, "b"), 8)
        # Several works of one task wait at once.
        crew = Crew((Task("a", 2, 3, due=1), Task("b", 3, 9, due=1)))
        self.assertEqual([self.check(crew, name) for name in "ab"], longest_of_all(crew))
        self.assertGreater(worst(crew, "a")[0], 3)

    def test_doors(self):
        crew = Crew((Task("a", 2, 6), Door("d", 3, 8), Door("e", 1, 4)))
        self.assertEqual(lets_in(crew), ("in",))
        # A door is as a task of its ROOM and GAP.
        tasks = Crew((Task("a", 2, 6), Task("d", 3, 8), Task("e", 1, 4)))
        for name in "ade":
            self.assertEqual(self.check(crew, name), worst(tasks, name)[0])
            self.assertLessEqual(worst(crew, name)[0], due_of(crew.named(name)))

    def test_eight_members(self):
        # One that comes a point behind all others waits for them; the last one also comes with them.
        crew = Crew(tuple([Task(name, 1, 8) for name in "abcdefgh"]))
        self.assertEqual([self.check(crew, name) for name in "abcdefgh"], [7, 7, 7, 7, 7, 7, 7, 8])

    def test_a_long_stretch(self):
        crew = Crew((Task("a", 30, 100), Door("b", 99, 150), Task("c", 1, 100, due=50), Task("d", 1, 450)))
        for name in "abcd":
            moments = self.check(crew, name, most=900)
            self.assertGreaterEqual(moments, len(crew.named(name)))
            self.assertLessEqual(moments, due_of(crew.named(name)))

    def test_against_all_that_can_come(self):
        chance = random.Random(11)
        for time in range(250):
            crew = some_crew(chance, most=3, gaps=(2, 3, 4, 5, 6), costs=3, doors=0, holds=0)
            if crew.load()[0] <= crew.load()[1]:
                self.assertEqual([self.check(crew, name) for name in crew.names()], longest_of_all(crew))

    def test_no_work_takes_longer_and_just_crews_let_in_keep_dues(self):
        chance = random.Random(12)
        for time in range(120):
            crew = some_crew(chance, most=4, holds=0, costs=chance.choice((2, 4)))
            word = lets_in(crew)[0]
            top, bottom = crew.load()
            doors = [member for member in crew.members if isinstance(member, Door)]
            if top > bottom or (doors and word == "breaks"):
                continue
            longest = {name: self.check(crew, name) for name in crew.names()}
            kept = all([longest[member.name] <= due_of(member) for member in crew.members])
            self.assertEqual(kept, word == "in")
            for again in range(3):
                run = PlainRun(crew, some_rows(chance, crew, slack=0.2))
                for name, number, comes, due, begins, ends in run.work_rows():
                    self.assertLessEqual(ends - comes, longest[name])

    def test_told_the_same_each_time_and_nothing_changed(self):
        crew = Crew((Task("a", 1, 4), Task("b", 2, 6), Door("c", 2, 9)))
        row = str(crew)
        self.assertEqual(worst(crew, "b"), worst(crew, "b"))
        self.assertEqual(str(crew), row)


class Refused(Asking):
    # Each of these is refused by all that stands behind it in its name, too.
    ODD = Crew((HOLDER, Task("a", 9, 9), Door("b", 9, 5), Task("c", 1, 599)))
    MUCH = Crew((Task("a", 9, 9), Door("b", 9, 5), Task("c", 1, 599)))
    LONG = Crew((Task("a", 4, 9, due=1), Door("b", 1, 5), Task("c", 1, 599)))
    LATE = Crew((Task("a", 4, 10, due=1), Door("b", 3, 5)))

    def test_what_is_no_crew(self):
        for thing in NO_WHOLES + (0, HUGE, SAW, (SAW,), str(SAW), Crew):
            for name in ("saw", None):
                self.assertIsNone(self.refuses(NoCrew, TimeError, lambda: worst(thing, name, most=0)).name)
                self.assertIsNone(self.refuses(NoCrew, TimeError, lambda: worst(thing, name)).name)

    def test_what_is_no_name(self):
        for crew in (Crew(), Crew((SAW,)), self.ODD, self.MUCH, self.LONG, self.LATE):
            for name in NO_NAMES + ("nobody", "t", "sa", SAW, ("saw",)):
                self.assertIs(self.refuses(NoName, LostError, lambda: worst(crew, name)).name, name)
                self.assertIs(self.refuses(NoName, LostError, lambda: worst(crew, name, most=None)).name, name)

    def test_what_is_no_number(self):
        for crew in (Crew((Task("a", 1, 9),)), self.ODD, self.MUCH, self.LONG, self.LATE):
            for most in NO_WHOLES + (0, -1, 901, HUGE, -HUGE):
                self.assertIs(self.refuses(NoNumber, TimeError, lambda: worst(crew, "a", most=most)).number, most)

    def test_a_task_with_holds(self):
        for crew in (self.ODD, Crew((Task("a", 1, 9), HOLDER)), Crew((Task("a", 2, 9, holds=(("t", 1, 1),)),))):
            for most in (1, 600):
                self.refuses(NoPlain, TimeError, lambda: worst(crew, "a", most=most))

    def test_a_load_above_one(self):
        for most in (1, 600, 900):
            self.assertEqual(
                self.refuses(TooMuch, FullError, lambda: worst(self.MUCH, "a", most=most)).share, self.MUCH.load()
            )
        crew = Crew((Task("a", 1, 2), Task("b", 2, 4), Task("c", 1, 600)))
        told = self.refuses(TooMuch, FullError, lambda: worst(crew, "c")).share
        self.assertEqual(told, (601, 600))
        self.assertIsInstance(told, tuple)
        self.refuses(TooMuch, FullError, lambda: worst(Crew((Door("a", 3, 2),)), "a"))

    def test_a_stretch_above_most(self):
        told = self.refuses(TooMany, FullError, lambda: worst(self.LONG, "a"))
        self.assertEqual((told.many, told.most), (599 * 45, 600))
        told = self.refuses(TooMany, FullError, lambda: worst(self.LATE, "a", most=9))
        self.assertEqual((told.many, told.most), (10, 9))
        crew = Crew((Task("a", 1, 100), Task("b", 1, 450)))
        told = self.refuses(TooMany, FullError, lambda: worst(crew, "a"))
        self.assertEqual((told.many, told.most), (900, 600))
        self.assertEqual(worst(crew, "a", most=900)[0], 1)

    def test_a_door_in_a_crew_that_is_not_let_in(self):
        for crew, name in (
            (self.LATE, "a"), (self.LATE, "b"), (Crew((Door("b", 3, 5), Task("a", 3, 10, due=2), Task("c", 1, 30))), "c"),
        ):
            for most in (30, 600):
                told = self.refuses(Breaks, FullError, lambda: worst(crew, name, most=most))
                self.assertEqual(("breaks", told.long, told.comings), lets_in(crew))
                self.assertTrue(PlainRun(crew, told.comings.rows).late())
        # Without the door it is told, late as works may be.
        self.assertEqual(worst(self.LATE.without("b"), "a")[0], 4)

    def test_names_stand_in_the_order_of_the_crew(self):
        crew = Crew((Task("z", 2, 9, due=5), Task("a", 2, 9, due=5)))
        self.assertEqual([place(crew, name) for name in "az"], [1, 0])
        self.assertLess(turn(crew, "z", 0), turn(crew, "a", 0))
        self.assertEqual([self.check(crew, name) for name in "az"], [4, 3])


if __name__ == "__main__":
    unittest.main()
