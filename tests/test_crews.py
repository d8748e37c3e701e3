"""Crews (point 5, their rows of point 6, and point 2 for them)."""

import fractions
import inspect
import itertools
import math
import unittest

from duetimes import crews
from duetimes.crews import LIMIT, Crew
from duetimes.errors import (
    FullError, LostError, NoCrew, NoName, NoNumber, NoTool, TimeError, TooMany,
)
from duetimes.members import Door, Task
from things import HUGE, NO_NAMES, NO_WHOLES, OTHER_KINDS, Alike, Comparing, Sore

SAW = Task("saw", 2, 10, holds=(("t", 0, 2),))
OVEN = Task("oven", 3, 15, due=12, holds=(("t", 0, 1), ("u", 1, 2)))
SHOP = Door("shop", 4, 20)
EIGHT = tuple([Task(name, 1, 20) if name in "abcd" else Door(name, 1, 30) for name in "abcdefgh"])


class Crews(unittest.TestCase):
    def refuses_crew(self, name, ask, *row, **more):
        with self.assertRaises(NoCrew) as caught:
            ask(*row, **more)
        self.assertIsInstance(caught.exception, TimeError)
        self.assertEqual(caught.exception.name, name)

    def refuses_name(self, ask, name):
        with self.assertRaises(NoName) as caught:
            ask(name)
        self.assertIsInstance(caught.exception, LostError)
        self.assertIs(caught.exception.name, name)

    def refuses_tool(self, crew, tool):
        with self.assertRaises(NoTool) as caught:
            crew.level(tool)
        self.assertIsInstance(caught.exception, LostError)
        self.assertIs(caught.exception.tool, tool)


class Interface(unittest.TestCase):
    def test_the_class_stands_in_this_file_with_its_methods(self):
        self.assertEqual(Crew.__module__, "duetimes.crews")
        self.assertIs(crews.Crew, Crew)
        for method in (
            "__init__", "__eq__", "__len__", "__str__", "__repr__",
            "names", "named", "with_member", "without", "load", "stretch", "level",
        ):
            self.assertIn(method, vars(Crew))

    def test_limit(self):
        self.assertEqual(LIMIT, 600)
        self.assertIsInstance(LIMIT, int)

    def test_arguments(self):
        for method, row in (
            (Crew, "(members=())"),
            (Crew.names, "(self)"),
            (Crew.named, "(self, name)"),
            (Crew.with_member, "(self, member)"),
            (Crew.without, "(self, name)"),
            (Crew.load, "(self)"),
            (Crew.stretch, "(self, *, most=600)"),
            (Crew.level, "(self, tool)"),
        ):
            self.assertEqual(str(inspect.signature(method)), row)


class Making(Crews):
    def test_of_none_to_eight_members(self):
        for many in range(9):
            crew = Crew(EIGHT[:many])
            self.assertEqual(crew.members, EIGHT[:many])
            self.assertIsInstance(crew.members, tuple)
            self.assertIn("members", vars(crew))
            self.assertEqual(crew.names(), tuple("abcdefgh"[:many]))
            self.assertEqual(len(crew), many)

    def test_members_left_out_and_by_name(self):
        self.assertEqual(Crew().members, ())
        self.assertEqual(Crew(()).members, ())
        self.assertEqual(Crew(members=(SHOP, SAW)).members, (SHOP, SAW))

    def test_members_stay_in_their_order(self):
        for turn in itertools.permutations((SAW, OVEN, SHOP)):
            crew = Crew(turn)
            self.assertEqual(crew.members, turn)
            self.assertEqual(crew.names(), tuple([member.name for member in turn]))

    def test_alike_but_for_their_names(self):
        self.assertEqual(Crew((Task("a", 1, 2), Task("b", 1, 2))).names(), ("a", "b"))

    def test_nine_members(self):
        self.refuses_crew(None, Crew, (*EIGHT, Task("i", 1, 20)))
        self.refuses_crew(None, Crew, (*EIGHT, EIGHT[0]))
        self.refuses_crew(None, Crew, members=(*EIGHT, SHOP, SAW))

    def test_no_tuple(self):
        for thing in OTHER_KINDS + ("", "a", 0, 1, HUGE, SAW, SHOP, Crew(), [SAW], [], {"saw": SAW}):
            if not isinstance(thing, tuple):
                self.refuses_crew(None, Crew, thing)

    def test_another_thing_among_them(self):
        for thing in OTHER_KINDS + ("saw", "", 0, 1, HUGE, Crew((SAW,)), (SAW,), [SAW], str(SAW), Task, Door):
            self.refuses_crew(None, Crew, (thing,))
            self.refuses_crew(None, Crew, (SAW, thing))
            self.refuses_crew(None, Crew, (thing, SAW, SHOP))

    def test_a_name_twice(self):
        a, b, c = Task("a", 1, 9), Door("b", 1, 9), Task("c", 1, 9)
        self.refuses_crew("a", Crew, (a, a))
        self.refuses_crew("a", Crew, (a, Door("a", 5, 7)))
        self.refuses_crew("b", Crew, (a, b, c, b))
        self.refuses_crew("a", Crew, (a, b, c, a))
        self.refuses_crew("b", Crew, members=(EIGHT[1], *EIGHT[1:]))

    def test_of_several_twice_the_first_that_has_one_ahead(self):
        a, b, c = Task("a", 1, 9), Door("b", 1, 9), Task("c", 1, 9)
        self.refuses_crew("b", Crew, (a, b, b, a))
        self.refuses_crew("a", Crew, (b, a, a, b))
        self.refuses_crew("a", Crew, (b, a, c, a, b, c))
        self.refuses_crew("c", Crew, (c, b, a, c, b, a))

    def test_another_thing_goes_ahead_of_a_name_twice(self):
        self.refuses_crew(None, Crew, (SAW, SAW, 5))
        self.refuses_crew(None, Crew, (5, SAW, SAW))
        self.refuses_crew(None, Crew, [SAW, SAW])


class Named(Crews):
    def test_names_that_are_there(self):
        crew = Crew((SAW, SHOP, OVEN))
        self.assertIs(crew.named("saw"), SAW)
        self.assertIs(crew.named("shop"), SHOP)
        self.assertIs(crew.named(name="oven"), OVEN)
        for member in EIGHT:
            self.assertIs(Crew(EIGHT).named(member.name), member)

    def test_names_and_things_that_are_not(self):
        for crew in (Crew(), Crew((SAW, SHOP, OVEN)), Crew(EIGHT)):
            for name in NO_NAMES + ("t", "u", "sa", "saws", "SAW", "zz", SAW, ("saw",), ["saw"], {"saw": SAW}):
                self.refuses_name(crew.named, name)
                self.refuses_name(crew.without, name)


class With(Crews):
    def test_behind(self):
        crew = Crew()
        for many, member in enumerate(EIGHT):
            wider = crew.with_member(member)
            self.assertIsInstance(wider, Crew)
            self.assertEqual(wider.members, EIGHT[:many + 1])
            self.assertEqual(crew.members, EIGHT[:many])
            crew = wider

    def test_in_the_place_of_that_of_its_name(self):
        for at, name in enumerate("abcdefgh"):
            for member in (Task(name, 7, 70, due=7), Door(name, 7, 70)):
                crew = Crew(EIGHT)
                other = crew.with_member(member)
                self.assertEqual(other.members, (*EIGHT[:at], member, *EIGHT[at + 1:]))
                self.assertIs(other.members[at], member)
                self.assertEqual(crew.members, EIGHT)

    def test_by_name(self):
        self.assertEqual(Crew((SAW,)).with_member(member=SHOP).members, (SAW, SHOP))

    def test_a_ninth(self):
        crew = Crew(EIGHT)
        self.refuses_crew(None, crew.with_member, SAW)
        self.refuses_crew(None, crew.with_member, member=SHOP)
        self.assertEqual(crew.members, EIGHT)

    def test_no_member(self):
        for crew in (Crew(), Crew((SAW,)), Crew(EIGHT)):
            for thing in NO_WHOLES + (0, 1, "saw", Crew(), (SAW,), [SAW], {"saw": SAW}, str(SAW), Task):
                before = crew.members
                self.refuses_crew(None, crew.with_member, thing)
                self.assertIs(crew.members, before)


class Without(Crews):
    def test_each(self):
        crew = Crew(EIGHT)
        for at, name in enumerate("abcdefgh"):
            other = crew.without(name)
            self.assertIsInstance(other, Crew)
            self.assertEqual(other.members, (*EIGHT[:at], *EIGHT[at + 1:]))
            self.assertEqual(crew.members, EIGHT)

    def test_the_last_one(self):
        self.assertEqual(Crew((SHOP,)).without(name="shop").members, ())

    def test_twice(self):
        self.refuses_name(Crew((SHOP, SAW)).without("shop").without, "shop")


class Load(Crews):
    def test_of_nobody(self):
        self.assertEqual(Crew().load(), (0, 1))

    def test_lowest_terms(self):
        for rows, load in (
            (((1, 2),), (1, 2)),
            (((2, 4),), (1, 2)),
            (((4, 4),), (1, 1)),
            (((99, 1),), (99, 1)),
            (((1, 600),), (1, 600)),
            (((1, 2), (1, 2)), (1, 1)),
            (((1, 6), (1, 10)), (4, 15)),
            (((1, 6), (1, 3), (1, 2)), (1, 1)),
            (((3, 2), (3, 2)), (3, 1)),
            (((2, 6), (5, 4)), (19, 12)),
        ):
            tasks = [Task("abcdefgh"[at], cost, gap) for at, (cost, gap) in enumerate(rows)]
            doors = [Door("abcdefgh"[at], cost, gap) for at, (cost, gap) in enumerate(rows)]
            for members in (tasks, doors, [*tasks[:1], *doors[1:]]):
                self.assertEqual(Crew(tuple(members)).load(), load)
                self.assertIsInstance(Crew(tuple(members)).load(), tuple)

    def test_due_counts_for_nothing(self):
        self.assertEqual(Crew((Task("a", 2, 10, due=2),)).load(), (1, 5))

    def test_many_against_fractions(self):
        for seed in range(1, 60):
            members = [
                Task(name, seed * (at + 3) % 99 + 1, seed * seed * (at + 7) % 600 + 1)
                if (seed + at) % 2 == 0
                else Door(name, seed * (at + 5) % 99 + 1, seed * (at + 11) % 600 + 1)
                for at, name in enumerate("abcdefgh"[:seed % 9])
            ]
            share = sum([fractions.Fraction(len(member), member.gap) for member in members], fractions.Fraction(0))
            self.assertEqual(Crew(tuple(members)).load(), (share.numerator, share.denominator))


class Stretch(Crews):
    def refuses_many(self, many, told, crew, **more):
        with self.assertRaises(TooMany) as caught:
            crew.stretch(**more)
        self.assertIsInstance(caught.exception, FullError)
        self.assertEqual((caught.exception.many, caught.exception.most), (many, told))

    def test_of_nobody(self):
        self.assertEqual(Crew().stretch(), 1)
        self.assertEqual(Crew().stretch(most=1), 1)
        self.assertEqual(Crew().stretch(most=900), 1)

    def test_the_least_that_all_gaps_divide(self):
        for gaps in ((1,), (600,), (4, 6), (6, 4), (2, 3, 5, 7), (5, 5, 5), (8, 12, 18), (600, 1, 300), (25, 24)):
            tasks = [Task("abcdefgh"[at], 1, gap, due=1) for at, gap in enumerate(gaps)]
            doors = [Door("abcdefgh"[at], 1, gap) for at, gap in enumerate(gaps)]
            for members in (tasks, doors, [*tasks[:1], *doors[1:]]):
                self.assertEqual(Crew(tuple(members)).stretch(), math.lcm(*gaps))

    def test_at_most_and_one_above(self):
        for gaps in ((7,), (4, 6), (2, 3, 5)):
            crew = Crew(tuple([Task("abc"[at], 1, gap) for at, gap in enumerate(gaps)]))
            many = math.lcm(*gaps)
            self.assertEqual(crew.stretch(most=many), many)
            self.assertEqual(crew.stretch(most=many + 1), many)
            self.refuses_many(many, many - 1, crew, most=many - 1)

    def test_most_1(self):
        self.assertEqual(Crew((Task("a", 1, 1), Door("b", 1, 1))).stretch(most=1), 1)
        self.refuses_many(2, 1, Crew((Task("a", 1, 2),)), most=1)

    def test_most_900(self):
        crew = Crew((Task("a", 1, 450), Door("b", 1, 180)))
        self.assertEqual(crew.stretch(most=900), 900)
        self.refuses_many(900, 899, crew, most=899)
        self.refuses_many(901, 900, Crew((Task("a", 1, 17), Door("b", 1, 53))), most=900)

    def test_most_left_out_is_600(self):
        self.assertEqual(Crew((Task("a", 1, 600),)).stretch(), 600)
        self.assertEqual(Crew((Task("a", 1, 599),)).stretch(), 599)
        self.refuses_many(900, 600, Crew((Task("a", 1, 450), Door("b", 1, 180))))
        # No GAPs make 601, a prime number.
        self.refuses_many(602, 600, Crew((Task("a", 1, 43), Door("b", 1, 14))))

    def test_many_is_told_whole(self):
        gaps = (599, 597, 595, 593, 592, 589, 587, 577)
        crew = Crew(tuple([Task("abcdefgh"[at], 1, gap) for at, gap in enumerate(gaps)]))
        self.refuses_many(math.lcm(*gaps), 600, crew)
        self.refuses_many(math.lcm(*gaps), 1, crew, most=1)

    def test_most_refused(self):
        for crew in (Crew(), Crew((Task("a", 1, 2),)), Crew((Task("a", 1, 599), Door("b", 1, 600)))):
            for most in NO_WHOLES + (0, -1, 901, 902, HUGE, -HUGE):
                with self.assertRaises(NoNumber) as caught:
                    crew.stretch(most=most)
                self.assertIsInstance(caught.exception, TimeError)
                self.assertIs(caught.exception.number, most)

    def test_most_goes_by_name_alone(self):
        with self.assertRaises(TypeError):
            Crew().stretch(600)


class Level(Crews):
    def test_the_least_due_of_those_that_have_it(self):
        crew = Crew((SAW, OVEN, SHOP))
        self.assertEqual(crew.level("t"), 10)
        self.assertEqual(crew.level("u"), 12)
        self.assertEqual(crew.level(tool="u"), 12)

    def test_due_and_not_gap_counts_in_any_order(self):
        rows = (("a", 50, 40), ("b", 60, 7), ("c", 9, 9))
        tasks = [Task(name, 2, gap, due=due, holds=(("t", 0, 1),)) for name, gap, due in rows]
        for turn in itertools.permutations(tasks):
            self.assertEqual(Crew(turn).level("t"), 7)

    def test_members_without_it_count_for_nothing(self):
        low = Task("low", 1, 9, due=1, holds=(("s", 0, 1),))
        plain = Task("plain", 1, 9, due=2)
        crew = Crew((low, plain, Door("door", 1, 3), OVEN))
        self.assertEqual(crew.level("t"), 12)
        self.assertEqual(crew.level("s"), 1)

    def test_each_hold_of_a_task_counts(self):
        holds = (("a", 0, 1), ("b", 0, 1), ("b", 1, 1), ("c", 5, 1))
        crew = Crew((Task("x", 6, 9, due=8, holds=holds),))
        self.assertEqual([crew.level(tool) for tool in "abc"], [8, 8, 8])

    def test_a_tool_called_like_a_member(self):
        crew = Crew((Task("t", 2, 9, holds=(("shop", 0, 1), ("t", 0, 1))), SHOP))
        self.assertEqual(crew.level("t"), 9)
        self.assertEqual(crew.level("shop"), 9)

    def test_names_of_members_and_things_of_any_kind(self):
        for crew in (Crew(), Crew((SHOP,)), Crew(EIGHT), Crew((SAW, OVEN, SHOP))):
            for tool in NO_NAMES + ("saw", "oven", "shop", "v", "tt", "a", SAW, ("t",), ["t"], {"t": 1}, ("t", 0, 2)):
                self.refuses_tool(crew, tool)
        self.refuses_tool(Crew((SHOP,)), "t")


class AlikeCrews(Comparing):
    def test_alike(self):
        self.compare(Crew(), Crew(()), True)
        self.compare(Crew((Task("a", 1, 9), SHOP)), Crew((Task("a", 1, 9, due=9), Door("shop", 4, 20))), True)
        self.compare(Crew(EIGHT), Crew().with_member(EIGHT[0]), False)
        self.compare(Crew(EIGHT[:1]), Crew().with_member(EIGHT[0]), True)

    def test_unlike(self):
        crew = Crew((SAW, SHOP))
        for other in (
            Crew(), Crew((SHOP, SAW)), Crew((SAW,)), Crew((SHOP,)), Crew((SAW, SHOP, OVEN)),
            Crew((SAW, Door("shop", 4, 21))), Crew((Task("saw", 2, 10), SHOP)), Crew((Door("saw", 2, 10), SHOP)),
        ):
            self.compare(crew, other, False)

    def test_other_things_never_are(self):
        for crew in (Crew(), Crew((SAW,)), Crew((SAW, SHOP))):
            for thing in NO_WHOLES + (0, 1, 2, crew.members, list(crew.members), str(crew), repr(crew), SAW, SHOP):
                self.assertIs(crew == thing, False)
                self.assertIs(crew != thing, True)
                if not isinstance(thing, (Alike, Sore)):
                    self.compare(crew, thing, False)


class Signs(unittest.TestCase):
    def test_truth(self):
        self.assertIs(bool(Crew()), False)
        for many in range(1, 9):
            self.assertIs(bool(Crew(EIGHT[:many])), True)

    def test_str(self):
        self.assertEqual(str(Crew()), "")
        self.assertEqual(str(Crew((SHOP,))), "door shop 4 20")
        self.assertEqual(
            str(Crew((SAW, SHOP, OVEN, Task("x", 99, 600)))),
            "task saw 2 10 10 t 0 2\ndoor shop 4 20\ntask oven 3 15 12 t 0 1 u 1 2\ntask x 99 600 600",
        )

    def test_repr(self):
        self.assertEqual(repr(Crew()), "Crew()")
        self.assertEqual(repr(Crew((SHOP,))), "Crew(shop)")
        self.assertEqual(repr(Crew((SAW, SHOP, OVEN))), "Crew(saw, shop, oven)")
        self.assertEqual(repr(Crew(EIGHT)), "Crew(a, b, c, d, e, f, g, h)")

    def test_asking_changes_nothing(self):
        members = (SAW, OVEN, SHOP)
        rows = [str(member) for member in members]
        crew = Crew(members)
        for again in range(2):
            self.assertEqual(crew.load(), (3, 5))
            self.assertEqual(crew.stretch(), 60)
            self.assertEqual(crew.level("t"), 10)
            self.assertEqual(crew.with_member(Door("saw", 1, 1)).names(), ("saw", "oven", "shop"))
            self.assertEqual(crew.without("oven").names(), ("saw", "shop"))
            self.assertEqual((len(crew), crew.names()), (3, ("saw", "oven", "shop")))
            with self.assertRaises(NoName):
                crew.without("t")
        self.assertEqual(members, (SAW, OVEN, SHOP))
        self.assertEqual(crew.members, (SAW, OVEN, SHOP))
        self.assertEqual([str(member) for member in crew.members], rows)

    def test_a_list_that_is_refused_stays(self):
        members = [SAW, SHOP]
        with self.assertRaises(NoCrew):
            Crew(members)
        self.assertEqual(members, [SAW, SHOP])


if __name__ == "__main__":
    unittest.main()
