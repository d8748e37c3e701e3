"""The gate (points 18 to 21, `log` of point 22, and points 2 and 3 for them)."""

import inspect
import random
import unittest

from duetimes import gates
from duetimes.comings import Comings
from duetimes.crews import Crew
from duetimes.errors import (
    Breaks, Busy, FullError, LostError, NoCrew, NoDeeds, NoMember, NoName, NoNumber, Standing, TimeError, TooMany, TooSoon,
)
from duetimes.gates import Gate
from duetimes.members import Door, Task
from plain import PlainRun
from plaingate import Both, some_deed, some_need, state
from things import HUGE, NO_NAMES, NO_WHOLES, OTHER_KINDS, Alike, Sore

A = Task("a", 3, 10, due=8)
B = Task("b", 4, 20)
DOOR = Door("d", 3, 10)
CREW = Crew((A, B, DOOR))
FAR = 10 ** 6

# It holds t when 2 to 4 of its moments have been served.
SLOW = Task("slow", 6, 60, due=50, holds=(("t", 1, 4),))
USER = Task("user", 2, 20, due=10, holds=(("t", 0, 1),))


class Asking(unittest.TestCase):
    def refuses(self, kind, family, ask, *row, **more):
        with self.assertRaises(kind) as caught:
            ask(*row, **more)
        self.assertIsInstance(caught.exception, family)
        return caught.exception

    def refuses_name(self, name, ask, *row, **more):
        self.assertIs(self.refuses(NoName, LostError, ask, *row, **more).name, name)

    def refuses_number(self, number, ask, *row, **more):
        self.assertIs(self.refuses(NoNumber, TimeError, ask, *row, **more).number, number)

    def both(self, *members):
        return Both(self, Crew(members))


class Interface(Asking):
    def test_the_class_stands_in_this_file(self):
        self.assertEqual(Gate.__module__, "duetimes.gates")
        self.assertIs(gates.Gate, Gate)
        for name, row in (
            ("__init__", "(self, crew=None)"), ("come", "(self, name, *, need=None)"), ("go", "(self, moments)"),
            ("point", "(self)"), ("waiting_works", "(self)"), ("ended", "(self)"), ("who", "(self)"),
            ("let_in", "(self, member)"), ("leave", "(self, name)"), ("by_when", "(self, name, need)"),
            ("do", "(self, deeds, *, watch=None)"), ("log", "(self)"), ("__len__", "(self)"),
        ):
            self.assertIn(name, vars(Gate))
            self.assertEqual(str(inspect.signature(vars(Gate)[name])), row)

    def test_by_place_and_by_name(self):
        gate = Gate(crew=CREW)
        self.assertEqual(gate.come(name="a", need=2), 0)
        self.assertEqual(gate.come(need=2, name="b"), 0)
        self.assertEqual(gate.go(moments=1), ((0, 1, "a", 0),))
        self.assertEqual(gate.let_in(member=Task("c", 1, 20)), "in")
        self.assertIsNone(gate.leave(name="c"))
        self.assertEqual(gate.by_when(need=3, name="d"), 11)
        self.assertEqual(gate.do(deeds=(), watch=None), [])
        for ask in (lambda: gate.come("a", 1), lambda: gate.do((), None)):
            with self.assertRaises(TypeError):
                ask()

    def test_values_stand_on_the_object(self):
        for gate in (Gate(), Gate(CREW)):
            self.assertIs(vars(gate)["doing"], False)
            self.assertEqual((vars(gate)["tries"], vars(gate)["tries"].__class__), (0, int))


class Made(Asking):
    def test_of_nobody(self):
        for gate in (Gate(), Gate(None), Gate(crew=None), Gate(Crew())):
            self.assertEqual(state(gate), (0, ((), (), ()), 0, (), [], "0 end"))
            self.assertFalse(gate)

    def test_of_a_crew(self):
        both = Both(self, CREW)
        self.assertEqual(both.gate.who(), (("a", "b", "d"), (), ()))
        self.assertEqual(len(both.gate), 3)
        self.assertTrue(both.gate)
        self.assertEqual(both.gate.log(), "0 let task a 3 10 8\n0 let task b 4 20 20\n0 let door d 3 10\n0 end")

    def test_of_eight(self):
        crew = Crew(tuple([Task(name, 1, 20) for name in "hgfedcba"]))
        self.assertEqual(Gate(crew).who()[0], tuple("hgfedcba"))

    def test_what_is_no_crew(self):
        for thing in NO_WHOLES + (0, HUGE, A, CREW.members, str(CREW), Crew, Comings(CREW), Gate(), Alike(), Sore()):
            if thing is not None:
                self.assertIsNone(self.refuses(NoCrew, TimeError, Gate, thing).name)

    def test_too_long_a_stretch(self):
        for members in ((Task("a", 1, 599), Task("b", 1, 2)), (Task("a", 99, 599), Task("b", 99, 2))):
            refused = self.refuses(TooMany, FullError, Gate, Crew(members))
            self.assertEqual((refused.many, refused.most), (1198, 600))
        self.assertEqual(len(Gate(Crew((Task("a", 1, 300), Task("b", 1, 200))))), 2)

    def test_one_that_breaks(self):
        crew = Crew((Task("a", 4, 10, due=5), Task("b", 3, 10, due=5)))
        refused = self.refuses(Breaks, FullError, Gate, crew)
        self.assertEqual((refused.long, refused.comings.crew), (5, crew))
        self.assertEqual(refused.comings.rows[0][1], 0)
        self.assertTrue(PlainRun(crew, refused.comings.rows).late())

    def test_two_gates_hear_nothing_of_one_another(self):
        one = Gate(CREW)
        other = Gate(CREW)
        before = state(other)
        one.come("a")
        one.leave("b")
        one.go(2)
        self.assertEqual(state(other), before)
        self.assertEqual(CREW.members, (A, B, DOOR))
        self.assertNotEqual(Gate(), Gate())


class Come(Asking):
    def test_a_work_of_cost_and_less(self):
        for need, end in ((None, 3), (3, 3), (2, 2), (1, 1)):
            both = Both(self, CREW)
            self.assertEqual(both.do("come", "a", need), 0)
            self.assertEqual(both.gate.waiting_works(), (("a", 0, 0, 0),))
            self.assertEqual(both.do("go", 9), ((0, end, "a", 0),))
            self.assertEqual(both.gate.ended(), [("a", 0, 0, 8, end)])

    def test_need_out_of_bounds(self):
        gate = Gate(CREW)
        before = state(gate)
        for thing in NO_WHOLES + (0, -1, 100, HUGE, -HUGE):
            if thing is not None:
                for name in "abd":
                    self.refuses_number(thing, gate.come, name, need=thing)
        self.refuses_number(4, gate.come, "a", need=4)
        self.refuses_number(5, gate.come, "b", need=5)
        self.assertEqual(state(gate), before)
        self.assertEqual((gate.come("b", need=4), gate.come("d", need=99)), (0, 0))

    def test_no_name(self):
        gate = Gate(CREW)
        for thing in NO_NAMES + ("x", "aa", A, "let"):
            self.refuses_name(thing, gate.come, thing)
            self.refuses_name(thing, gate.come, thing, need=0)
        self.refuses_name("a", Gate().come, "a")

    def test_who_left_and_who_is_to_be_in_are_not_in(self):
        both = self.both(SLOW, USER)
        both.do("come", "slow", None)
        both.do("go", 2)
        self.assertEqual(both.do("let", Task("x", 1, 60, holds=(("t", 0, 1),))), "soon")
        both.do("leave", "slow")
        self.assertEqual(both.gate.who(), (("user",), ("slow",), ("x",)))
        for name in ("slow", "x"):
            self.refuses_name(name, both.gate.come, name)
            self.assertIsInstance(both.do("come", name, 0), NoName)

    def test_too_soon(self):
        both = Both(self, CREW)
        self.assertEqual(both.do("come", "a", 1), 0)
        for need in (None, 1, 3):
            self.assertEqual(both.do("come", "a", need).first, 10)
        both.do("go", 9)
        self.assertIsInstance(both.do("come", "a", None), TooSoon)
        self.refuses(TooSoon, FullError, both.gate.come, "a")
        self.refuses_number(0, both.gate.come, "a", need=0)
        self.refuses_number(4, both.gate.come, "a", need=4)
        both.do("go", 1)
        self.assertEqual(both.do("come", "a", None), 1)
        both.do("go", 3)
        self.assertEqual(both.do("come", "a", None).first, 20)
        both.do("go", 8)
        self.assertEqual(both.do("come", "a", None), 2)
        self.assertEqual(both.do("come", "a", None).first, 31)

    def test_comers_have_no_gap(self):
        both = Both(self, CREW)
        self.assertEqual([both.do("come", "d", need) for need in (None, 1, 99, 2)], [0, 1, 2, 3])
        both.do("go", 5)
        self.assertEqual(both.do("come", "d", 1), 4)
        self.assertEqual(both.gate.ended(), [("d", 0, 0, 10, 3)])

    def test_numbers_are_each_members_own(self):
        both = Both(self, CREW)
        for name in "abdd":
            both.do("come", name, 1)
        both.do("go", 30)
        self.assertEqual([both.do("come", name, 1) for name in "abd"], [1, 1, 2])

    def test_a_coming_at_the_point_at_which_another_is_ended(self):
        both = Both(self, CREW)
        both.do("come", "b", None)
        both.do("go", 4)
        self.assertEqual(both.gate.ended(), [("b", 0, 0, 20, 4)])
        both.do("come", "a", None)
        self.assertEqual(both.do("go", 3), ((4, 7, "a", 0),))


class Go(Asking):
    def test_nothing_to_serve(self):
        both = Both(self)
        for moments, point in ((0, 0), (1, 1), (0, 1), (41, 42)):
            self.assertEqual(both.do("go", moments), ())
            self.assertEqual(both.gate.point(), point)

    def test_no_moments(self):
        gate = Gate(CREW)
        gate.come("a")
        before = state(gate)
        for thing in NO_WHOLES + (-1, FAR + 1, HUGE, -HUGE):
            self.refuses_number(thing, gate.go, thing)
        self.assertEqual(state(gate), before)
        self.assertEqual(gate.go(FAR), ((0, 3, "a", 0),))

    def test_one_moment_each(self):
        both = Both(self, CREW)
        both.do("come", "b", None)
        self.assertEqual(both.do("go", 1), ((0, 1, "b", 0),))
        both.do("come", "a", 2)
        told = [both.do("go", 1) for moment in range(6)]
        self.assertEqual(told, [
            ((1, 2, "a", 0),), ((2, 3, "a", 0),), ((3, 4, "b", 0),), ((4, 5, "b", 0),), ((5, 6, "b", 0),), (),
        ])

    def test_many_pieces_in_one_go(self):
        both = Both(self, CREW)
        for name, need in (("b", None), ("a", None), ("d", 7)):
            both.do("come", name, need)
        self.assertEqual(both.do("go", 40), (
            (0, 3, "a", 0), (3, 6, "d", 0), (6, 10, "b", 0), (10, 13, "d", 1), (20, 21, "d", 2),
        ))
        self.assertEqual(both.gate.ended(), [
            ("a", 0, 0, 8, 3), ("d", 0, 0, 10, 6), ("b", 0, 0, 20, 10), ("d", 1, 10, 20, 13), ("d", 2, 20, 30, 21),
        ])

    def test_to_a_point_within_a_piece(self):
        both = Both(self, CREW)
        both.do("come", "b", None)
        both.do("go", 3)
        self.assertEqual(both.gate.waiting_works(), (("b", 0, 0, 3),))
        self.assertEqual(both.gate.ended(), [])
        self.assertEqual(both.do("go", 5), ((3, 4, "b", 0),))

    def test_what_ends_at_the_last_point_is_ended(self):
        both = Both(self, CREW)
        both.do("come", "a", None)
        both.do("go", 3)
        self.assertEqual((both.gate.waiting_works(), both.gate.ended()), ((), [("a", 0, 0, 8, 3)]))

    def test_portions_come_as_a_moment_begins(self):
        both = Both(self, CREW)
        both.do("come", "d", 4)
        self.assertEqual(both.gate.waiting_works(), ())
        both.do("go", 0)
        self.assertEqual(both.gate.waiting_works(), ())
        both.do("go", 1)
        self.assertEqual(both.gate.waiting_works(), (("d", 0, 0, 1),))
        both.do("go", 9)
        self.assertEqual((both.gate.point(), both.gate.waiting_works()), (10, ()))
        both.do("go", 0)
        self.assertEqual(both.gate.waiting_works(), ())
        self.assertEqual(both.do("go", 1), ((10, 11, "d", 1),))

    def test_a_portion_is_ended_as_soon_as_nobody_waits(self):
        both = Both(self, CREW)
        both.do("come", "d", 2)
        both.do("go", 2)
        self.assertEqual(both.gate.ended(), [("d", 0, 0, 10, 2)])
        both.do("come", "d", 1)
        self.assertEqual(both.do("go", 8), ())
        self.assertEqual(both.do("go", 8), ((10, 11, "d", 1),))

    def test_comers_join_a_portion_that_waits(self):
        both = Both(self, CREW)
        both.do("come", "d", 2)
        both.do("go", 1)
        both.do("come", "d", 5)
        self.assertEqual(both.do("go", 30), ((1, 3, "d", 0), (10, 13, "d", 1), (20, 21, "d", 2)))

    def test_several_doors_at_one_point(self):
        both = self.both(Door("x", 2, 10), Door("y", 2, 10), Door("z", 3, 20))
        for name, need in (("z", 4), ("y", 3), ("x", 5)):
            both.do("come", name, need)
        both.do("go", 50)

    def test_far(self):
        gate = Gate(Crew((Door("d", 1, 600), A)))
        gate.come("d", need=99)
        gate.come("a")
        told = gate.go(FAR)
        self.assertEqual(gate.point(), FAR)
        self.assertEqual(len(told), 100)
        self.assertEqual((told[0], told[1], told[2], told[-1]), (
            (0, 3, "a", 0), (3, 4, "d", 0), (600, 601, "d", 1), (58800, 58801, "d", 98),
        ))
        self.assertEqual(gate.go(FAR), ())
        self.assertEqual(gate.come("a"), 1)
        self.assertEqual(gate.go(FAR), ((2 * FAR, 2 * FAR + 3, "a", 1),))
        self.assertEqual(gate.log().split("\n")[-2:], [f"{2 * FAR} serve a 1 {2 * FAR + 3}", f"{3 * FAR} end"])

    def test_many_goings_far(self):
        gate = Gate(CREW)
        for time in range(2000):
            gate.go(FAR)
        self.assertEqual((gate.point(), gate.log().split("\n")[-1]), (2000 * FAR, f"{2000 * FAR} end"))
        self.assertEqual(gate.come("a"), 0)
        self.assertEqual(gate.go(4), ((2000 * FAR, 2000 * FAR + 3, "a", 0),))

    def test_how_it_is_parted_is_nothing_to_what_is_served(self):
        for seed in range(30):
            source = random.Random(seed)
            one = Gate(CREW)
            other = Gate(CREW)
            for time in range(12):
                name = source.choice("abd")
                if name == "d" or f" come {name} " not in one.log():
                    for gate in (one, other):
                        gate.come(name, need=1 + time % 3)
                moments = source.randint(0, 15)
                one.go(moments)
                for part in range(moments):
                    other.go(1)
                    other.go(0)
                self.assertEqual(state(one), state(other))


class Order(Asking):
    def test_of_those_due_at_once_the_one_who_came_to_be_in_first(self):
        both = self.both(Task("b", 2, 10), Task("a", 2, 10))
        both.do("let", Task("c", 2, 10))
        for name in "cab":
            both.do("come", name, None)
        self.assertEqual([row[0] for row in both.gate.waiting_works()], ["b", "a", "c"])
        self.assertEqual(both.do("go", 6), ((0, 2, "b", 0), (2, 4, "a", 0), (4, 6, "c", 0)))

    def test_who_is_let_in_anew_stands_behind(self):
        both = self.both(Task("a", 2, 10), Task("b", 2, 10))
        both.do("leave", "a")
        both.do("let", Task("a", 2, 10))
        self.assertEqual(both.gate.who()[0], ("b", "a"))
        for name in "ab":
            both.do("come", name, None)
        self.assertEqual(both.do("go", 4), ((0, 2, "b", 0), (2, 4, "a", 0)))

    def test_who_left_keeps_its_place(self):
        both = self.both(Task("a", 2, 10), Task("b", 2, 10), Task("c", 2, 10))
        for name in "cab":
            both.do("come", name, None)
        both.do("leave", "b")
        both.do("leave", "a")
        self.assertEqual(both.gate.who(), (("c",), ("a", "b"), ()))
        self.assertEqual(both.do("go", 6), ((0, 2, "a", 0), (2, 4, "b", 0), (4, 6, "c", 0)))

    def test_by_due_then_member_then_coming(self):
        both = self.both(Task("a", 4, 10, due=10), Task("b", 1, 10, due=9), DOOR)
        both.do("come", "a", None)
        both.do("go", 1)
        both.do("come", "b", None)
        both.do("come", "d", 1)
        self.assertEqual(both.gate.waiting_works(), (("a", 0, 0, 1), ("b", 0, 1, 0)))
        both.do("go", 1)
        self.assertEqual(both.gate.waiting_works(), (("a", 0, 0, 2), ("b", 0, 1, 0), ("d", 0, 1, 0)))

    def test_what_is_told_is_the_askers_own(self):
        gate = Gate(CREW)
        gate.come("a")
        gate.go(5)
        told = gate.ended()
        self.assertIsInstance(told, list)
        told.append("more")
        told[0] = "other"
        self.assertEqual(gate.ended(), [("a", 0, 0, 8, 3)])
        self.assertIsNot(gate.ended(), gate.ended())
        for found in (gate.waiting_works(), gate.who(), gate.go(1), *gate.who()):
            self.assertIsInstance(found, tuple)


class Letting(Asking):
    def test_in_at_once(self):
        both = Both(self)
        for member in (A, B, DOOR):
            self.assertEqual(both.do("let", member), "in")
        self.assertEqual((len(both.gate), both.gate.who()), (3, (("a", "b", "d"), (), ())))
        both.do("come", "a", None)
        self.assertEqual(both.do("let", Task("c", 1, 20)), "in")
        self.assertEqual(both.do("come", "c", None), 0)
        both.do("go", 10)

    def test_no_member(self):
        for gate in (Gate(), Gate(CREW)):
            before = state(gate)
            for thing in NO_NAMES + ("a", CREW, str(A), Task, ("task", "a", 1, 5, 5, ()), Comings(CREW), gate):
                self.assertEqual(vars(self.refuses(NoMember, TimeError, gate.let_in, thing)), {})
            self.assertEqual(state(gate), before)

    def test_standing(self):
        both = self.both(SLOW, USER, Door("d", 1, 20))
        both.do("come", "slow", None)
        both.do("go", 2)
        both.do("let", Task("x", 1, 60, holds=(("t", 0, 1),)))
        both.do("leave", "slow")
        self.assertEqual(both.gate.who(), (("user", "d"), ("slow",), ("x",)))
        for name in ("user", "d", "slow", "x"):
            # Whatever it would be else: too long a stretch, one that breaks.
            for member in (Task(name, 1, 60), Task(name, 99, 1), Door(name, 1, 599), Door(name, 1, 60)):
                self.assertEqual(both.do("let", member).name, name)
                self.refuses(Standing, FullError, both.gate.let_in, member)

    def test_too_many(self):
        both = self.both(*[Task(name, 1, 20) for name in "abcdefgh"])
        for member in (Task("i", 1, 20), Task("i", 99, 20), Task("i", 1, 599), Door("i", 1, 20)):
            refused = both.do("let", member)
            self.assertEqual((refused.many, refused.most), (9, 8))
        both.do("leave", "a")
        self.assertEqual(both.do("let", Task("i", 1, 20)), "in")

    def test_too_many_with_those_to_be_in(self):
        both = self.both(*[Task(name, 1, 20, holds=(("t", 0, 1),)) for name in "abcde"], SLOW)
        both.do("come", "slow", None)
        both.do("go", 2)
        for name in "fg":
            self.assertEqual(both.do("let", Task(name, 1, 60, holds=(("t", 0, 1),))), "soon")
        refused = both.do("let", Task("h", 1, 60))
        self.assertEqual((refused.many, refused.most), (9, 8))
        both.do("leave", "f")
        self.assertEqual(both.do("let", Task("h", 1, 60)), "in")

    def test_those_that_left_are_not_too_many(self):
        both = self.both(*[Task(name, 1, 20) for name in "abcdefgh"])
        both.do("come", "a", None)
        both.do("leave", "a")
        # Nine would count, so it is to be in.
        self.assertEqual(both.do("let", Task("i", 1, 20)), "soon")
        self.assertEqual(both.gate.who(), (tuple("bcdefgh"), ("a",), ("i",)))
        refused = both.do("let", Task("j", 1, 20))
        self.assertEqual((refused.many, refused.most), (9, 8))
        both.do("go", 1)
        self.assertEqual(both.gate.who(), (tuple("bcdefghi"), (), ()))

    def test_too_long_a_stretch(self):
        both = self.both(Task("a", 1, 20))
        for member, many in ((Task("b", 1, 599), 11980), (Task("b", 99, 31), 620), (Door("b", 99, 599), 11980)):
            refused = both.do("let", member)
            self.assertEqual((refused.many, refused.most), (many, 600))
        self.assertEqual(both.do("let", Task("b", 1, 30)), "in")
        self.assertEqual(both.do("let", Task("c", 1, 600)), "in")

    def test_too_long_with_those_to_be_in(self):
        both = self.both(Task("a", 1, 20), Task("b", 1, 7))
        both.do("come", "b", None)
        both.do("leave", "b")
        # 20, 7 and 30 have 420, 20, 7 and 9 have 1260: this one waits till b counts no more.
        self.assertEqual(both.do("let", Task("c", 1, 9)), "soon")
        refused = both.do("let", Task("e", 1, 7))
        self.assertEqual((refused.many, refused.most), (1260, 600))
        self.assertEqual(both.do("let", Task("e", 1, 30)), "in")
        both.do("go", 1)
        self.assertEqual(both.gate.who(), (("a", "e", "c"), (), ()))

    def test_breaks(self):
        both = self.both(A, B)
        crew = Crew((A, B, Task("c", 6, 10)))
        refused = both.do("let", crew.members[2])
        self.assertIsInstance(refused, Breaks)
        self.assertEqual(refused.comings.crew, crew)
        self.refuses(Breaks, FullError, both.gate.let_in, Task("c", 6, 10))
        self.assertEqual(both.do("let", Task("c", 5, 10)), "in")

    def test_breaks_with_those_to_be_in(self):
        both = self.both(Task("a", 5, 10), Task("b", 5, 10))
        both.do("come", "a", None)
        both.do("leave", "a")
        self.assertEqual(both.do("let", Task("c", 3, 10)), "soon")
        self.assertEqual(both.do("let", Task("e", 3, 10)).comings.crew.names(), ("b", "c", "e"))
        self.assertEqual(both.do("let", Task("e", 2, 10)), "soon")
        self.assertIsInstance(both.do("let", Task("f", 1, 10)), Breaks)
        both.do("leave", "c")
        self.assertEqual(both.do("let", Task("f", 3, 10)), "soon")
        both.do("go", 5)
        self.assertEqual(both.gate.who(), (("b", "e", "f"), (), ()))

    def test_soon_by_what_would_break(self):
        both = self.both(Task("a", 5, 10), Task("b", 3, 10))
        both.do("come", "a", None)
        both.do("go", 2)
        both.do("leave", "a")
        self.assertEqual(both.do("let", Task("c", 4, 10)), "soon")
        self.assertEqual(both.gate.who(), (("b",), ("a",), ("c",)))
        both.do("go", 2)
        self.assertEqual(both.gate.who(), (("b",), ("a",), ("c",)))
        both.do("go", 1)
        self.assertEqual(both.gate.who(), (("b", "c"), (), ()))
        self.assertEqual(both.do("come", "c", None), 0)

    def test_in_at_once_though_others_are_to_be_in(self):
        both = self.both(Task("a", 5, 10), Task("b", 3, 10))
        both.do("come", "a", None)
        both.do("leave", "a")
        self.assertEqual(both.do("let", Task("c", 4, 10)), "soon")
        self.assertEqual(both.do("let", Task("e", 2, 10)), "in")
        self.assertEqual(both.gate.who(), (("b", "e"), ("a",), ("c",)))
        self.assertEqual(both.do("let", Task("f", 1, 10)), "soon")
        both.do("go", 5)
        self.assertEqual(both.gate.who(), (("b", "e", "c", "f"), (), ()))

    def test_soon_by_a_tool_that_is_held(self):
        hungry = Task("x", 1, 60, holds=(("t", 0, 1),))
        for moments, told in ((0, "in"), (1, "in"), (2, "soon"), (3, "soon"), (4, "soon"), (5, "in"), (6, "in")):
            both = self.both(SLOW)
            both.do("come", "slow", None)
            both.do("go", moments)
            self.assertEqual(both.do("let", hungry), told)
            self.assertEqual(both.do("let", Task("y", 1, 60, holds=(("s", 0, 1),))), "in")
            self.assertEqual(both.do("let", Door("z", 1, 60)), "in")
            both.do("go", 9)
            self.assertEqual(set(both.gate.who()[0]), {"slow", "x", "y", "z"})

    def test_a_tool_is_free_between_two_holds(self):
        for moments, told in ((1, "in"), (2, "soon"), (3, "in"), (4, "soon"), (5, "in")):
            both = self.both(Task("a", 6, 60, holds=(("t", 1, 2), ("t", 3, 2))))
            both.do("come", "a", None)
            both.do("go", moments)
            self.assertEqual(both.do("let", Task("x", 1, 60, holds=(("t", 0, 1),))), told)

    def test_a_tool_that_waits_in_a_work_that_is_gone_ahead_of(self):
        both = self.both(SLOW, Task("fast", 3, 20, due=5))
        both.do("come", "slow", None)
        both.do("go", 2)
        both.do("come", "fast", None)
        both.do("go", 1)
        self.assertEqual(both.gate.waiting_works(), (("fast", 0, 2, 1), ("slow", 0, 0, 2)))
        self.assertEqual(both.do("let", USER), "soon")
        both.do("go", 8)
        self.assertEqual(both.gate.who(), (("slow", "fast", "user"), (), ()))

    def test_several_in_their_order(self):
        both = self.both(Task("a", 5, 10), Task("b", 2, 10))
        both.do("come", "a", None)
        both.do("leave", "a")
        for name in "zxy":
            self.assertEqual(both.do("let", Task(name, 2, 10, due=10)), "in" if name == "z" else "soon")
        self.assertEqual(both.gate.who(), (("b", "z"), ("a",), ("x", "y")))
        both.do("go", 5)
        self.assertEqual(both.gate.who(), (("b", "z", "x", "y"), (), ()))
        for name in "yxzb":
            both.do("come", name, None)
        self.assertEqual([row[2] for row in both.do("go", 10)], ["b", "z", "x", "y"])


class Leaving(Asking):
    def test_at_once_where_no_work_waits(self):
        both = Both(self, CREW)
        self.assertIsNone(both.do("leave", "b"))
        self.assertEqual((both.gate.who(), len(both.gate)), ((("a", "d"), (), ()), 2))

    def test_no_name(self):
        gate = Gate(CREW)
        before = state(gate)
        for thing in NO_NAMES + ("x", "aa", A):
            self.refuses_name(thing, gate.leave, thing)
        self.assertEqual(state(gate), before)

    def test_no_name_while_somebody_is_to_be_in(self):
        gate = Gate(Crew((SLOW, DOOR)))
        gate.come("slow")
        gate.go(2)
        gate.leave("d")
        self.assertEqual(gate.let_in(USER), "soon")
        before = state(gate)
        for thing in NO_NAMES + ("x", "d", USER):
            self.refuses_name(thing, gate.leave, thing)
        self.assertEqual(state(gate), before)

    def test_while_its_work_waits(self):
        both = Both(self, CREW)
        both.do("come", "b", None)
        both.do("go", 1)
        both.do("leave", "b")
        self.assertEqual((both.gate.who(), len(both.gate)), ((("a", "d"), ("b",), ()), 2))
        self.assertIsInstance(both.do("leave", "b"), NoName)
        self.assertIsInstance(both.do("come", "b", None), NoName)
        self.assertIsInstance(both.do("let", B), Standing)
        self.assertEqual(both.do("go", 2), ((1, 3, "b", 0),))
        self.assertEqual(both.gate.who(), (("a", "d"), ("b",), ()))
        self.assertEqual(both.do("go", 1), ((3, 4, "b", 0),))
        self.assertEqual(both.gate.who(), (("a", "d"), (), ()))
        self.assertEqual(both.gate.ended(), [("b", 0, 0, 20, 4)])

    def test_while_works_of_others_wait(self):
        both = Both(self, CREW)
        both.do("come", "b", None)
        both.do("leave", "a")
        both.do("leave", "d")
        self.assertEqual(both.gate.who(), (("b",), ("a", "d"), ()))
        both.do("go", 4)
        self.assertEqual(both.gate.who(), (("b",), (), ()))

    def test_one_that_is_to_be_in(self):
        both = self.both(Task("a", 5, 10), Task("b", 3, 10))
        both.do("come", "a", None)
        both.do("leave", "a")
        for name in "cef":
            both.do("let", Task(name, 2, 10, holds=(("t", 0, 1),)))
        self.assertEqual(both.gate.who(), (("b", "c"), ("a",), ("e", "f")))
        both.do("leave", "e")
        self.assertEqual(both.gate.who(), (("b", "c"), ("a",), ("f",)))
        self.assertIsInstance(both.do("leave", "e"), NoName)
        # Its name is free at once.
        self.assertEqual(both.do("let", Door("e", 2, 10)), "soon")
        both.do("go", 5)
        self.assertEqual(both.gate.who(), (("b", "c", "f", "e"), (), ()))

    def test_a_door_at_which_somebody_waits(self):
        both = Both(self, CREW)
        both.do("come", "d", 4)
        for moments in (0, 1, 2, 6, 1, 0):
            both.do("go", moments)
            self.assertEqual(both.do("leave", "d").name, "d")
            self.refuses(Busy, FullError, both.gate.leave, "d")
        both.do("go", 1)
        self.assertEqual(both.gate.waiting_works(), ())
        both.do("leave", "a")
        both.do("go", 1)
        self.assertIsNone(both.do("leave", "d"))
        self.assertEqual(both.gate.who(), (("b",), (), ()))

    def test_a_comer_alone_is_no_work(self):
        both = Both(self, CREW)
        both.do("come", "d", 4)
        both.do("leave", "a")
        self.assertEqual(both.gate.who(), (("b", "d"), (), ()))
        both.do("go", 1)
        both.do("leave", "b")
        self.assertEqual(both.gate.who(), (("d",), ("b",), ()))
        both.do("go", 2)
        # The portion is ended, its comer waits on.
        self.assertEqual(both.gate.who(), (("d",), (), ()))
        self.assertEqual(both.gate.by_when("d", 1), 20)

    def test_at_a_point_at_which_a_portion_comes(self):
        both = self.both(Task("a", 4, 10), Door("d", 2, 10), Task("b", 3, 10))
        both.do("come", "d", 4)
        both.do("go", 9)
        both.do("come", "a", 1)
        both.do("leave", "a")
        both.do("leave", "b")
        self.assertEqual(both.do("let", Task("x", 2, 10)), "soon")
        self.assertEqual(both.gate.who(), (("d",), ("a", "b"), ("x",)))
        both.do("go", 1)
        self.assertEqual((both.gate.point(), both.gate.who()), (10, (("d", "x"), (), ())))
        self.assertEqual(both.do("go", 1), ((10, 11, "d", 1),))

    def test_so_in_the_midst_of_a_going(self):
        both = self.both(Task("a", 4, 10), Door("d", 2, 10), Task("b", 3, 10))
        both.do("come", "d", 4)
        both.do("go", 9)
        both.do("come", "a", 1)
        both.do("leave", "a")
        both.do("let", Task("x", 6, 10))
        self.assertEqual(both.do("go", 3), ((9, 10, "a", 0), (10, 12, "d", 1)))
        self.assertEqual(both.gate.who()[1], ())

    def test_levels_of_those_that_left(self):
        # Without the user's level the slow one's tool would hold up nobody but what is due in 50 or more.
        other = Task("x", 1, 60, due=12)
        for leaves in (False, True):
            both = self.both(SLOW, USER, other)
            both.do("come", "slow", None)
            both.do("go", 2)
            if leaves:
                both.do("leave", "user")
            both.do("come", "x", None)
            self.assertEqual(both.do("go", 10), ((2, 5, "slow", 0), (5, 6, "x", 0), (6, 7, "slow", 0)))
        both = self.both(SLOW, USER, other)
        both.do("leave", "user")
        both.do("come", "slow", None)
        both.do("go", 2)
        both.do("come", "x", None)
        self.assertEqual(both.do("go", 10), ((2, 3, "x", 0), (3, 7, "slow", 0)))

    def test_levels_of_those_to_be_in_do_not_count(self):
        both = self.both(SLOW, Task("x", 1, 60, due=12))
        both.do("come", "slow", None)
        both.do("go", 2)
        self.assertEqual(both.do("let", USER), "soon")
        both.do("come", "x", None)
        self.assertEqual(both.do("go", 10), ((2, 3, "x", 0), (3, 7, "slow", 0)))


class Anew(Asking):
    def test_its_gap_begins_anew_and_its_numbers_go_on(self):
        both = Both(self, CREW)
        both.do("come", "a", 1)
        both.do("go", 1)
        self.assertIsInstance(both.do("come", "a", 1), TooSoon)
        both.do("leave", "a")
        self.assertEqual(both.do("let", Task("a", 2, 20)), "in")
        self.assertEqual(both.do("come", "a", None), 1)
        self.assertEqual(both.do("come", "a", None).first, 21)
        self.assertEqual(both.do("go", 2), ((1, 3, "a", 1),))

    def test_its_portions_begin_anew(self):
        both = Both(self, CREW)
        both.do("come", "d", 2)
        both.do("come", "d", 1)
        both.do("go", 3)
        both.do("leave", "d")
        both.do("let", Door("d", 2, 20))
        self.assertEqual(both.by_when("d", 2), 23)
        self.assertEqual(both.do("come", "d", 3), 2)
        self.assertEqual(both.do("go", 30), ((3, 5, "d", 1), (23, 24, "d", 2)))

    def test_as_a_member_of_the_other_kind(self):
        both = Both(self, CREW)
        both.do("come", "a", 1)
        both.do("come", "d", 1)
        both.do("come", "d", 1)
        both.do("go", 5)
        for name in "ad":
            both.do("leave", name)
        both.do("let", Door("a", 2, 10))
        both.do("let", Task("d", 2, 10))
        # Works are counted apart from comers.
        self.assertEqual([both.do("come", name, 1) for name in "ad"], [0, 1])
        self.assertEqual(both.do("go", 5), ((5, 6, "a", 1), (6, 7, "d", 1)))

    def test_thrice(self):
        both = Both(self)
        for time in range(3):
            both.do("let", A)
            self.assertEqual(both.do("come", "a", None), time)
            both.do("go", 3)
            both.do("leave", "a")
        self.assertEqual([row[1] for row in both.gate.ended()], [0, 1, 2])

    def test_who_was_to_be_in_has_no_numbers(self):
        both = self.both(SLOW)
        both.do("come", "slow", None)
        both.do("go", 2)
        self.assertEqual(both.do("let", USER), "soon")
        both.do("leave", "user")
        both.do("go", 9)
        self.assertEqual(both.do("let", USER), "in")
        self.assertEqual(both.do("come", "user", None), 0)


class ByWhen(Asking):
    def test_without_a_portion(self):
        both = self.both(Door("d", 3, 10), Task("a", 2, 10))
        for need, point in ((1, 10), (3, 10), (4, 20), (6, 20), (7, 30), (99, 330)):
            self.assertEqual(both.by_when("d", need), point)
        both.do("go", 7)
        for need, point in ((1, 17), (3, 17), (4, 27)):
            self.assertEqual(both.by_when("d", need), point)

    def test_with_those_waiting_ahead(self):
        both = self.both(Door("d", 3, 10), Task("a", 2, 10))
        both.do("come", "d", 2)
        self.assertEqual([both.by_when("d", need) for need in (1, 2, 4, 5)], [10, 20, 20, 30])
        both.do("come", "d", 5)
        self.assertEqual([both.by_when("d", need) for need in (1, 2, 3, 5, 6)], [30, 30, 40, 40, 50])

    def test_with_a_portion_waiting(self):
        both = self.both(Door("d", 3, 10), Task("a", 2, 10, due=3))
        both.do("come", "d", 2)
        both.do("go", 1)
        self.assertEqual([both.by_when("d", need) for need in (1, 2, 4, 5, 7, 8)], [10, 20, 20, 30, 30, 40])
        both.do("come", "a", None)
        both.do("go", 2)
        self.assertEqual(both.gate.waiting_works(), (("d", 0, 0, 1),))
        self.assertEqual(both.by_when("d", 1), 10)
        self.assertEqual(both.by_when("d", 2), 20)
        both.do("come", "d", 6)
        self.assertEqual([both.by_when("d", need) for need in (1, 2, 4, 5)], [30, 40, 40, 50])

    def test_before_and_after_the_next_portion_may_come(self):
        both = self.both(Door("d", 3, 10), Task("a", 2, 10))
        both.do("go", 5)
        both.do("come", "d", 2)
        both.do("go", 2)
        told = []
        for moment in range(12):
            told.append(both.by_when("d", 3))
            both.do("go", 1)
        self.assertEqual(told, [25] * 9 + [26, 27, 28])

    def test_with_comers_left_over_and_no_portion(self):
        both = self.both(Door("d", 3, 10), Task("a", 2, 10))
        both.do("come", "d", 4)
        both.do("go", 3)
        self.assertEqual(both.gate.waiting_works(), ())
        self.assertEqual([both.by_when("d", need) for need in (1, 2, 3, 5, 6)], [20, 20, 30, 30, 40])
        both.do("go", 7)
        self.assertEqual([both.by_when("d", need) for need in (2, 3)], [20, 30])
        both.do("go", 1)
        # The portion of 10 is ended, nobody waits: the next one may come at 20.
        self.assertEqual([both.by_when("d", need) for need in (1, 3, 4)], [30, 30, 40])

    def test_who_has_no_door_in(self):
        both = self.both(SLOW, Door("d", 1, 60), Door("e", 1, 60))
        both.do("come", "slow", None)
        both.do("go", 2)
        both.do("leave", "e")
        both.do("let", Task("u", 1, 60, holds=(("t", 0, 1),)))
        gate = both.gate
        self.assertEqual(gate.who(), (("slow", "d"), ("e",), ("u",)))
        before = state(gate)
        for thing in NO_NAMES + ("x", "slow", "e", "u", DOOR):
            for need in (1, 0, None):
                self.refuses_name(thing, gate.by_when, thing, need)
        self.assertEqual(state(gate), before)

    def test_no_need(self):
        gate = Gate(CREW)
        for thing in NO_WHOLES + (0, -1, 100, HUGE, -HUGE):
            self.refuses_number(thing, gate.by_when, "d", thing)

    def test_asking_changes_nothing(self):
        gate = Gate(CREW)
        gate.come("d", need=4)
        for time in range(15):
            before = state(gate)
            first = gate.by_when("d", 2)
            self.assertEqual(gate.by_when("d", 2), first)
            self.assertEqual(state(gate), before)
            gate.go(1)

    def test_each_comer_is_ended_by_the_point_told(self):
        late = 0
        just = 0
        for seed in range(150):
            source = random.Random(seed)
            both = Both(self, Crew((Door("d", source.randint(1, 4), source.choice((5, 10))),)))
            told = []
            for time in range(40):
                deed = some_deed(source, both.plain, "abcd", (5, 10, 20))
                if deed[0] == "come" and deed[1] in both.plain.who()[0]:
                    member = both.plain.entry(deed[1])["member"]
                    if isinstance(member, Door):
                        need = some_need(source, member) or member.room
                        point = both.by_when(deed[1], need)
                        number = both.do("come", deed[1], need)
                        if not isinstance(number, Exception):
                            told.append((deed[1], number, point))
                        continue
                both.do(*deed)
            for time in range(40):
                both.do("go", 10)
            ends = {(comer["name"], comer["number"]): comer["ends"] for comer in both.plain.comers}
            for name, number, point in told:
                if ends[(name, number)] is not None:
                    self.assertLessEqual(ends[(name, number)], point)
                    just += ends[(name, number)] == point
                else:
                    self.assertGreater(point, both.gate.point())
                late += 1
        self.assertGreater(late, 500)
        self.assertGreater(just, 0)


class Do(Asking):
    def test_none(self):
        gate = Gate()
        told = gate.do(())
        self.assertEqual((told, told.__class__), ([], list))
        self.assertEqual((gate.doing, gate.tries), (False, 1))

    def test_one_and_several(self):
        gate = Gate()
        self.assertEqual(gate.do((("let", A),)), ["in"])
        told = gate.do((("come", "a", 2), ("go", 1), ("let", B), ("come", "b", None), ("leave", "b"), ("go", 9)))
        self.assertEqual(told, [0, ((0, 1, "a", 0),), "in", 0, None, ((1, 2, "a", 0), (2, 6, "b", 0))])
        self.assertEqual((gate.doing, gate.tries), (False, 2))
        self.assertEqual(gate.who(), (("a",), (), ()))

    def test_as_the_deeds_themselves(self):
        for seed in range(40):
            source = random.Random(seed)
            both = Both(self)
            told = []
            deeds = []
            for time in range(25):
                deed = some_deed(source, both.plain, "abcde", (5, 10, 20))
                answer = both.do(*deed)
                if not isinstance(answer, Exception):
                    deeds.append(deed)
                    told.append(answer)
            other = Gate()
            self.assertEqual(other.do(tuple(deeds)), told)
            self.assertEqual(state(other), state(both.gate))

    def test_what_is_told_is_the_askers_own(self):
        gate = Gate(CREW)
        deeds = (("go", 1),)
        told = gate.do(deeds)
        told.append(1)
        self.assertEqual(gate.do(deeds), [()])
        self.assertEqual(deeds, (("go", 1),))

    def test_no_tuple(self):
        gate = Gate(CREW)
        before = state(gate)
        tries = 0
        for thing in NO_WHOLES + (0, HUGE, A, CREW, "go", [("go", 1)], {("go", 1): 1}):
            if not isinstance(thing, tuple):
                self.assertIsNone(self.refuses(NoDeeds, TimeError, gate.do, thing).number)
                tries += 1
                self.assertEqual((gate.doing, gate.tries), (False, tries))
        self.assertEqual(state(gate), before)

    def test_no_deed(self):
        things = OTHER_KINDS + (
            0, 1, HUGE, "go", "let", "", A, ("go",), ("go", 1, 2), ("let",), ("let", A, A), ("leave",), ("leave", "a", "b"),
            ("come",), ("come", "a"), ("come", "a", 1, 1), ("Go", 1), ("gone", 1), ("", 1), (1, 1), (None, 1), (b"go", 1),
            ["go", 1], (("go",), 1), ("by", "d", 1), ("point",), ("let_in", A), (Alike(), 1), (Sore(), 1), (["go"], 1),
            ("serve", "a", 0, 1), ("end",), (True, 1), ({}, 1),
        )
        for place in range(3):
            gate = Gate(CREW)
            before = state(gate)
            for thing in things:
                deeds = (("go", 1),) * place + (thing, ("go", 1), "nonsense")
                refused = self.refuses(NoDeeds, TimeError, gate.do, deeds)
                self.assertEqual((refused.number, refused.number.__class__), (place, int))
                self.assertIs(gate.doing, False)
            self.assertEqual(state(gate), before)
            self.assertEqual(gate.tries, len(things))

    def test_no_deed_ahead_of_refused_ones(self):
        gate = Gate(CREW)
        asked = []
        deeds = (("leave", "x"), ("go", -1), ("go",))
        refused = self.refuses(NoDeeds, TimeError, gate.do, deeds, watch=lambda deed, answer: asked.append(deed))
        self.assertEqual((refused.number, asked), (2, []))

    def test_deeds_with_any_parts_are_deeds(self):
        for thing in NO_NAMES:
            gate = Gate(CREW)
            self.refuses(NoMember, TimeError, gate.do, (("let", thing),))
            self.refuses_name(thing, gate.do, (("leave", thing),))
            self.refuses_name(thing, gate.do, (("come", thing, thing),))
        for thing in NO_WHOLES:
            gate = Gate(CREW)
            self.refuses_number(thing, gate.do, (("go", thing),))
            if thing is not None:
                self.refuses_number(thing, gate.do, (("come", "a", thing),))

    def test_a_deed_that_is_refused_ends_it(self):
        deeds = (("let", A), ("come", "a", None), ("go", 1), ("let", B))
        bad = (("leave", "x"), NoName), (("come", "a", 9), NoNumber), (("go", -1), NoNumber), (("let", "a"), NoMember)
        for place in range(len(deeds) + 1):
            for deed, kind in bad:
                if deed[0] == "come" and place == 0:
                    continue
                gate = Gate()
                other = Gate()
                other.do(deeds[:place])
                asked = []
                with self.assertRaises(kind):
                    gate.do(
                        (*deeds[:place], deed, *deeds[place:]), watch=lambda deed, answer: asked.append((deed, answer)),
                    )
                self.assertEqual(state(gate), state(other))
                self.assertEqual([row[0] for row in asked], list(deeds[:place]))
                self.assertEqual((gate.doing, gate.tries), (False, 1))
                self.assertEqual(gate.do(()), [])
                self.assertEqual((gate.doing, gate.tries), (False, 2))

    def test_watch(self):
        gate = Gate()
        seen = []

        def look(deed, answer):
            seen.append((deed, answer, gate.doing, gate.tries, gate.point(), gate.who(), gate.log()))

        deeds = (("let", A), ("come", "a", 2), ("go", 1), ("leave", "a"), ("go", 2))
        told = gate.do(deeds, watch=look)
        self.assertEqual([row[0] for row in seen], list(deeds))
        self.assertEqual([row[1] for row in seen], told)
        self.assertEqual([row[2] for row in seen], [True] * 5)
        self.assertEqual([row[3] for row in seen], [1] * 5)
        self.assertEqual([row[4] for row in seen], [0, 0, 1, 1, 3])
        self.assertEqual([row[5] for row in seen], [
            (("a",), (), ()), (("a",), (), ()), (("a",), (), ()), ((), ("a",), ()), ((), (), ()),
        ])
        one = Gate()
        for deed, row in zip(deeds, seen):
            one.do((deed,))
            self.assertEqual(one.log(), row[6])
        self.assertIs(gate.doing, False)

    def test_watch_is_asked_with_the_deed_and_its_answer_by_place(self):
        asked = []
        Gate(CREW).do((("go", 1), ("come", "d", 1)), watch=lambda *row, **more: asked.append((row, more)))
        self.assertEqual(asked, [((("go", 1), ()), {}), ((("come", "d", 1), 0), {})])

    def test_watch_sees_goings_as_they_are_done(self):
        gate = Gate(CREW)
        points = []
        gate.do((("go", 2), ("go", 0), ("go", 3)), watch=lambda deed, answer: points.append(gate.point()))
        self.assertEqual(points, [2, 2, 5])

    def test_deeds_besides_leave_the_values_as_they_are(self):
        gate = Gate(CREW)
        gate.come("a")
        gate.go(1)
        with self.assertRaises(NoName):
            gate.leave("x")
        self.assertEqual((gate.doing, gate.tries), (False, 0))


class Log(Asking):
    def test_each_deed_and_each_piece(self):
        both = self.both(A)
        both.do("let", DOOR)
        both.do("come", "a", None)
        both.do("come", "d", None)
        both.do("go", 2)
        both.do("leave", "a")
        both.do("go", 20)
        self.assertEqual(both.gate.log().split("\n"), [
            "0 let task a 3 10 8", "0 let door d 3 10", "0 come a 3", "0 come d 3", "0 serve a 0 2", "2 leave a",
            "2 serve a 0 3", "3 serve d 0 6", "22 end",
        ])

    def test_holds_are_written(self):
        self.assertEqual(Gate(Crew((SLOW,))).log(), "0 let task slow 6 60 50 t 1 4\n0 end")

    def test_who_is_let_in_soon_stands_where_it_was_let_in(self):
        both = self.both(SLOW)
        both.do("come", "slow", None)
        both.do("go", 2)
        both.do("let", USER)
        both.do("go", 9)
        self.assertEqual(both.gate.log().split("\n"), [
            "0 let task slow 6 60 50 t 1 4", "0 come slow 6", "0 serve slow 0 2", "2 let task user 2 20 10 t 0 1",
            "2 serve slow 0 6", "11 end",
        ])

    def test_goings_do_not_part_a_piece(self):
        both = self.both(B)
        both.do("come", "b", None)
        for moments in (1, 0, 1, 1, 0, 1):
            both.do("go", moments)
        self.assertEqual(both.gate.log().split("\n")[2:], ["0 serve b 0 4", "4 end"])

    def test_refused_deeds_do_not_part_a_piece(self):
        both = self.both(B)
        both.do("come", "b", None)
        both.do("go", 1)
        for deed in (("come", "b", None), ("come", "x", 1), ("let", B), ("let", 5), ("leave", "x"), ("go", -1)):
            self.assertIsInstance(both.do(*deed), Exception)
        self.assertEqual(both.by_when("b", 1).name, "b")
        both.do("go", 1)
        self.assertEqual(both.gate.log().split("\n")[2:], ["0 serve b 0 2", "2 end"])

    def test_deeds_part_a_piece(self):
        for deed, row in (
            (("let", A), "2 let task a 3 10 8"), (("leave", "b"), "2 leave b"), (("come", "c", 1), "2 come c 1"),
        ):
            both = self.both(B, Task("c", 1, 20))
            both.do("come", "b", None)
            both.do("go", 2)
            both.do(*deed)
            both.do("go", 2)
            self.assertEqual(both.gate.log().split("\n")[3:], ["0 serve b 0 2", row, "2 serve b 0 4", "4 end"])

    def test_two_works_of_one_name_are_two_pieces(self):
        both = self.both(Task("a", 2, 2))
        for time in range(2):
            both.do("come", "a", None)
            both.do("go", 2)
        self.assertEqual(both.gate.log().split("\n")[1:], [
            "0 come a 2", "0 serve a 0 2", "2 come a 2", "2 serve a 1 4", "4 end",
        ])
        both = self.both(Door("d", 1, 1))
        both.do("come", "d", 2)
        both.do("go", 2)
        self.assertEqual(both.gate.log().split("\n")[2:], ["0 serve d 0 1", "1 serve d 1 2", "2 end"])

    def test_asked_twice(self):
        gate = Gate(CREW)
        gate.come("a")
        gate.go(1)
        self.assertEqual(gate.log(), gate.log())
        gate.go(1)
        self.assertEqual(gate.log().split("\n")[-2:], ["0 serve a 0 2", "2 end"])


class Anything(Asking):
    """Points 3 and 18 to 22, of all that comes to pass at some gates."""

    def run_some(self, seed, names, gaps, times, **more):
        source = random.Random(seed)
        both = Both(self)
        seen = []
        for time in range(times):
            deed = some_deed(source, both.plain, names, gaps, **more)
            answer = both.do(*deed)
            word = answer if isinstance(answer, str) else answer.__class__.__name__
            seen.append((deed[0], word))
        for deed in ((("go", 50),) * 4):
            both.do(*deed)
        for name, number, comes, due, ends in both.gate.ended():
            self.assertLessEqual(ends, due)
        return seen

    def test_as_the_plain_gate(self):
        seen = []
        for seed, gaps in enumerate(((4, 5, 6, 8, 10, 12, 20), (10, 12, 15, 20), (20, 30, 40, 60), (7, 9, 11, 13, 16)) * 40):
            seen += self.run_some(seed, "abcdef", gaps, 50)
        for kind in (
            ("let", "in"), ("let", "soon"), ("let", "Standing"), ("let", "TooMany"), ("let", "Breaks"), ("leave", "NoneType"),
            ("leave", "NoName"), ("leave", "Busy"), ("come", "int"), ("come", "NoName"), ("come", "NoNumber"),
            ("come", "TooSoon"), ("go", "tuple"),
        ):
            self.assertGreater(seen.count(kind), 9, kind)

    def test_full_crews_of_small_names(self):
        for seed in range(60):
            self.run_some(seed, "abcdefghij", (20, 40, 60), 70, costs=3, doors=0.2, holds=0.9)

    def test_many_doors(self):
        for seed in range(60):
            self.run_some(seed, "abcd", (5, 10), 60, doors=0.8, costs=3)


if __name__ == "__main__":
    unittest.main()
