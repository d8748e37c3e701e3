"""Comings (point 7, and point 2 for them)."""

import inspect
import itertools
import random
import unittest

from duetimes import comings
from duetimes.comings import Comings
from duetimes.crews import Crew
from duetimes.errors import NoComings, NoCrew, NoNumber, TimeError
from duetimes.members import Door, Task
from plain import some_crew, some_rows
from things import HUGE, NO_NAMES, NO_WHOLES, OTHER_KINDS, Alike, Comparing, Sore

SAW = Task("saw", 3, 10, due=8)
OVEN = Task("oven", 5, 7, holds=(("t", 0, 5),))
SHOP = Door("shop", 4, 20)
CREW = Crew((SAW, OVEN, SHOP))
FAR = 10 ** 9
ROWS = (("shop", 4, 99), ("oven", 3, None), ("saw", 3, 1), ("shop", 0, None), ("oven", 10, 5), ("shop", 4, 1))
ORDERED = (("shop", 0, 4), ("saw", 3, 1), ("oven", 3, 5), ("shop", 4, 99), ("shop", 4, 1), ("oven", 10, 5))


class Asking(unittest.TestCase):
    def refuses(self, number, ask, *row, **more):
        with self.assertRaises(NoComings) as caught:
            ask(*row, **more)
        self.assertIsInstance(caught.exception, TimeError)
        self.assertIs(type(caught.exception.number), type(number))
        self.assertEqual(caught.exception.number, number)

    def refuses_rows(self, number, *rows):
        self.refuses(number, Comings, CREW, rows)

    def refuses_crew(self, ask, *row, **more):
        with self.assertRaises(NoCrew) as caught:
            ask(*row, **more)
        self.assertIsNone(caught.exception.name)

    def refuses_number(self, ask, number):
        with self.assertRaises(NoNumber) as caught:
            ask(number)
        self.assertIs(caught.exception.number, number)


class Interface(unittest.TestCase):
    def test_the_class_stands_in_this_file_with_its_methods(self):
        self.assertEqual(Comings.__module__, "duetimes.comings")
        self.assertIs(comings.Comings, Comings)
        for method in ("__init__", "__eq__", "__len__", "__str__", "__repr__", "moved", "joined"):
            self.assertIn(method, vars(Comings))

    def test_arguments(self):
        self.assertEqual(str(inspect.signature(Comings)), "(crew, rows=())")
        self.assertEqual(str(inspect.signature(Comings.moved)), "(self, by)")
        self.assertEqual(str(inspect.signature(Comings.joined)), "(self, other)")

    def test_values_stand_on_the_object(self):
        made = Comings(CREW, ROWS)
        self.assertIs(vars(made)["crew"], CREW)
        self.assertEqual(vars(made)["rows"], ORDERED)

    def test_by_place_and_by_name(self):
        for made in (Comings(CREW, rows=ROWS), Comings(crew=CREW, rows=ROWS), Comings(rows=ROWS, crew=CREW)):
            self.assertEqual(made, Comings(CREW, ROWS))
        self.assertEqual(Comings(CREW).rows, ())
        self.assertEqual(Comings(crew=CREW).rows, ())
        made = Comings(CREW, ROWS)
        self.assertEqual(made.moved(by=2), made.moved(2))
        self.assertEqual(made.joined(other=Comings(CREW)), made)


class Rows(Asking):
    def test_rows_are_told_in_their_order(self):
        made = Comings(CREW, ROWS)
        self.assertEqual(made.rows, ORDERED)
        self.assertIsInstance(made.rows, tuple)
        for row in made.rows:
            self.assertIsInstance(row, tuple)

    def test_rows_in_any_turn(self):
        rows = (("saw", 5, None), ("oven", 5, 2), ("shop", 5, 7), ("saw", 15, 3), ("oven", 12, None))
        told = (("saw", 5, 3), ("oven", 5, 2), ("shop", 5, 7), ("oven", 12, 5), ("saw", 15, 3))
        for turn in itertools.permutations(rows):
            self.assertEqual(Comings(CREW, turn).rows, told)

    def test_at_one_moment_by_members_number_not_by_name(self):
        for members in itertools.permutations((SAW, OVEN, SHOP)):
            rows = tuple([(member.name, 6, 1) for member in (SHOP, SAW, OVEN)])
            told = tuple([(member.name, 6, 1) for member in members])
            self.assertEqual(Comings(Crew(members), rows).rows, told)

    def test_at_one_door_as_handed_in(self):
        for needs in itertools.permutations((1, 99, 4, None)):
            rows = tuple([("shop", 8, need) for need in needs])
            told = tuple([("shop", 8, 4 if need is None else need) for need in needs])
            self.assertEqual(Comings(CREW, rows).rows, told)
            self.assertEqual(Comings(CREW, (*rows, ("shop", 7, 2))).rows, (("shop", 7, 2), *told))

    def test_needs(self):
        for need in (1, 2, 3):
            self.assertEqual(Comings(CREW, (("saw", 0, need),)).rows, (("saw", 0, need),))
        for need in (1, 4, 5, 98, 99):
            self.assertEqual(Comings(CREW, (("shop", 0, need),)).rows, (("shop", 0, need),))
        self.assertEqual(Comings(CREW, (("saw", 0, None),)).rows, (("saw", 0, 3),))
        self.assertEqual(Comings(CREW, (("shop", 0, None),)).rows, (("shop", 0, 4),))

    def test_needs_refused(self):
        for need in (0, -1, 4, 5, 99, HUGE, -HUGE) + tuple([thing for thing in NO_WHOLES if thing is not None]):
            self.refuses_rows(0, ("saw", 0, need))
            self.refuses_rows(1, ("shop", 0, 1), ("saw", 0, need))
        for need in (0, -1, 100, 101, HUGE, -HUGE) + tuple([thing for thing in NO_WHOLES if thing is not None]):
            self.refuses_rows(0, ("shop", 0, need))

    def test_moments_at_their_bounds(self):
        for moment in (0, 1, FAR - 1, FAR):
            for name in ("saw", "shop"):
                self.assertEqual(Comings(CREW, ((name, moment, 1),)).rows, ((name, moment, 1),))

    def test_moments_refused(self):
        for moment in (-1, FAR + 1, HUGE, -HUGE) + NO_WHOLES:
            for name in ("saw", "shop"):
                self.refuses_rows(0, (name, moment, 1))
                self.refuses_rows(2, ("oven", 0, 1), ("shop", 0, 1), (name, moment, 1))

    def test_names_refused(self):
        for name in NO_NAMES + ("sa", "sawn", "t", "a", "door", SAW, CREW, ("saw",), ["saw"]):
            self.refuses_rows(0, (name, 0, 1))
            self.refuses_rows(1, ("saw", 0, 1), (name, 50, None))
        for name in ("saw", "a"):
            self.refuses(0, Comings, Crew(), ((name, 0, 1),))

    def test_things_in_the_place_of_a_row(self):
        odd = OTHER_KINDS + (
            "saw", "saw 0 1", 0, 1, HUGE, ("saw",), ("saw", 0), ("saw", 0, 1, 1), (("saw", 0, 1),), ["saw", 0, 1],
            SAW, CREW, Comings(CREW, (("saw", 0, 1),)), (0, "saw", 1), ("saw", 1, 0), ("saw", "0", 1), ("saw", 0, "1"),
        )
        for thing in odd:
            self.refuses_rows(0, thing)
            self.refuses_rows(2, ("saw", 0, 1), ("oven", 0, 1), thing)
            self.refuses_rows(1, ("saw", 0, 1), thing, ("saw", 0, 1))

    def test_things_in_the_place_of_all_rows(self):
        for thing in OTHER_KINDS + ("", "saw 0 1", 0, HUGE, [("saw", 0, 1)], [], {"saw": 0}, CREW, Comings(CREW)):
            if not isinstance(thing, tuple):
                self.refuses(None, Comings, CREW, thing)
                self.refuses(None, Comings, CREW, rows=thing)
        self.refuses(0, Comings, CREW, ("saw", 0, 1))

    def test_things_in_the_place_of_the_crew(self):
        for thing in NO_WHOLES + (0, HUGE, SAW, (SAW,), [SAW], "saw", str(CREW), Crew, Comings(CREW)):
            self.refuses_crew(Comings, thing)
            self.refuses_crew(Comings, thing, ())
            self.refuses_crew(Comings, thing, [])
            self.refuses_crew(Comings, crew=thing, rows=(1,))

    def test_the_first_that_is_not_so_is_told(self):
        self.refuses_rows(1, ("saw", 0, 1), ("saw", 9, 1), ("nobody", 0, 1))
        self.refuses_rows(1, ("saw", 0, 1), ("nobody", 0, 1), ("saw", 9, 1))
        self.refuses_rows(0, ("saw", 0, 4), ("saw", 1, 1))
        self.refuses_rows(3, ("shop", 0, 1), ("saw", 100, 1), ("saw", 0, 1), ("saw", 95, 1), ("saw", 95, 0))

    def test_what_was_handed_in_stays(self):
        rows = tuple([tuple(row) for row in ROWS])
        Comings(CREW, rows)
        self.assertEqual(rows, ROWS)
        listed = [("saw", 0, 1)]
        self.refuses(None, Comings, CREW, listed)
        self.assertEqual(listed, [("saw", 0, 1)])


class Gaps(Asking):
    def test_just_a_gap_apart(self):
        for first, second in ((0, 10), (10, 0), (FAR - 10, FAR), (FAR, FAR - 10), (0, FAR)):
            made = Comings(CREW, (("saw", first, 1), ("saw", second, 2)))
            self.assertEqual([row[1] for row in made.rows], sorted([first, second]))

    def test_nearer(self):
        for first, second in ((0, 9), (9, 0), (5, 5), (FAR - 9, FAR), (FAR, FAR - 9), (20, 21), (21, 20)):
            self.refuses_rows(1, ("saw", first, 1), ("saw", second, 2))
            self.refuses_rows(2, ("saw", first, 1), ("saw", 1000, 1), ("saw", second, 2))

    def test_between_two(self):
        self.assertEqual(len(Comings(CREW, (("saw", 0, 1), ("saw", 20, 1), ("saw", 10, 1)))), 3)
        for moment in range(35):
            if moment != 15:
                self.refuses_rows(2, ("saw", 5, 1), ("saw", 25, 1), ("saw", moment, 1))

    def test_each_by_its_own_gap(self):
        self.assertEqual(len(Comings(CREW, (("saw", 0, 1), ("oven", 1, 1), ("oven", 8, 1), ("saw", 10, 1)))), 4)
        self.refuses_rows(3, ("saw", 0, 1), ("oven", 1, 1), ("saw", 10, 1), ("oven", 7, 1))

    def test_gap_of_one(self):
        crew = Crew((Task("a", 1, 1),))
        self.assertEqual(len(Comings(crew, (("a", 1, 1), ("a", 0, 1), ("a", 2, 1)))), 3)
        self.refuses(2, Comings, crew, (("a", 1, 1), ("a", 0, 1), ("a", 1, 1)))

    def test_doors_let_in_without_a_gap(self):
        made = Comings(CREW, (("shop", 3, 1), ("shop", 3, 1), ("shop", 4, 2), ("shop", 2, 2)))
        self.assertEqual([row[1] for row in made.rows], [2, 3, 3, 4])

    def test_a_gap_is_not_a_due(self):
        self.refuses_rows(1, ("saw", 0, 1), ("saw", 8, 1))


class ManyRows(Asking):
    def test_none(self):
        for crew in (CREW, Crew()):
            self.assertEqual(Comings(crew, ()).rows, ())

    def test_a_thousand(self):
        for rows in (
            tuple([("shop", 3, 1) for time in range(1000)]),
            tuple([("saw", 10 * time, 1) for time in range(1000)]),
            tuple([("saw", 10 * time, 1) for time in reversed(range(1000))]),
        ):
            self.assertEqual(len(Comings(CREW, rows)), 1000)
            self.refuses(None, Comings, CREW, (*rows, ("shop", 0, 1)))
            self.refuses(None, Comings, CREW, (*rows, None))
            self.refuses(999, Comings, CREW, (*rows[:999], None))

    def test_more(self):
        self.refuses(None, Comings, CREW, (None,) * 1001)
        self.refuses(0, Comings, CREW, (None,) * 1000)


class Moving(Asking):
    def test_on_and_back(self):
        made = Comings(CREW, ROWS)
        for by in (0, 1, 7, 10 ** 6, FAR - 10):
            moved = made.moved(by)
            self.assertIsInstance(moved, Comings)
            self.assertIs(moved.crew, CREW)
            self.assertEqual(moved.rows, tuple([(name, moment + by, need) for name, moment, need in ORDERED]))
            self.assertEqual(moved.moved(-by), made)
        self.assertEqual(made.rows, ORDERED)

    def test_to_a_bound_and_beyond(self):
        made = Comings(CREW, (("saw", 5, 1), ("shop", 90, 1), ("shop", 7, 3)))
        self.assertEqual(made.moved(-5).rows, (("saw", 0, 1), ("shop", 2, 3), ("shop", 85, 1)))
        self.refuses_number(made.moved, -6)
        self.refuses_number(made.moved, -8)
        self.refuses_number(made.moved, -100)
        self.assertEqual(made.moved(FAR - 90).rows[-1], ("shop", FAR, 1))
        self.refuses_number(made.moved, FAR - 89)
        self.refuses_number(made.moved, FAR)
        self.refuses_number(made.moved, HUGE)
        self.refuses_number(made.moved, -HUGE)

    def test_without_rows_nothing_is_beyond(self):
        for by in (0, 1, -1, FAR + 1, HUGE, -HUGE):
            self.assertEqual(Comings(CREW).moved(by), Comings(CREW))

    def test_things_of_any_kind(self):
        for made in (Comings(CREW), Comings(CREW, ROWS)):
            for thing in NO_WHOLES + (made, CREW):
                self.refuses_number(made.moved, thing)
            self.assertEqual(made.rows in ((), ORDERED), True)


class Joining(Asking):
    def test_rows_of_both(self):
        one = Comings(CREW, (("saw", 10, 1), ("shop", 5, 1)))
        other = Comings(CREW, (("saw", 0, 2), ("oven", 10, 2), ("saw", 20, 3)))
        told = (("saw", 0, 2), ("shop", 5, 1), ("saw", 10, 1), ("oven", 10, 2), ("saw", 20, 3))
        self.assertEqual(one.joined(other).rows, told)
        self.assertEqual(other.joined(one).rows, told)
        self.assertIsInstance(one.joined(other), Comings)
        self.assertEqual(one.rows, (("shop", 5, 1), ("saw", 10, 1)))
        self.assertEqual(len(other), 3)

    def test_own_rows_go_ahead(self):
        one = Comings(CREW, (("shop", 5, 1), ("shop", 5, 2)))
        other = Comings(CREW, (("shop", 5, 3), ("shop", 4, 4), ("saw", 5, 1)))
        self.assertEqual([row[2] for row in one.joined(other).rows], [4, 1, 1, 2, 3])
        self.assertEqual([row[2] for row in other.joined(one).rows], [4, 1, 3, 1, 2])

    def test_with_none(self):
        made = Comings(CREW, ROWS)
        self.assertEqual(made.joined(Comings(CREW)), made)
        self.assertEqual(Comings(CREW).joined(made), made)
        self.assertEqual(Comings(CREW).joined(Comings(CREW)), Comings(CREW))

    def test_with_itself(self):
        made = Comings(CREW, ROWS)
        self.refuses(1, made.joined, made)
        doors = Comings(CREW, (("shop", 1, 1), ("shop", 0, 2)))
        self.assertEqual(doors.joined(doors).rows, (("shop", 0, 2), ("shop", 0, 2), ("shop", 1, 1), ("shop", 1, 1)))

    def test_too_near_is_told_by_the_number_in_the_other_ones_rows(self):
        one = Comings(CREW, (("saw", 30, 1), ("saw", 60, 1)))
        far = (("shop", 0, 1), ("saw", 0, 1), ("saw", 20, 1), ("saw", 40, 1), ("saw", 50, 1), ("saw", 70, 1))
        self.assertEqual(len(one.joined(Comings(CREW, far))), 8)
        for moment, number in ((21, 2), (30, 3), (39, 3), (51, 4), (69, 5)):
            keep = tuple([row for row in far if abs(row[1] - moment) >= 10 or row[0] == "shop"])
            other = Comings(CREW, (*keep, ("saw", moment, 1)))
            self.refuses(other.rows.index(("saw", moment, 1)), one.joined, other)
        # As they stand in rows, not as they were handed in.
        self.refuses(1, one.joined, Comings(CREW, (("saw", 61, 1), ("saw", 0, 1))))
        self.refuses(0, one.joined, Comings(CREW, (("saw", 61, 1), ("saw", 31, 1))))

    def test_an_unlike_crew(self):
        made = Comings(CREW, ROWS)
        for crew in (Crew(), Crew((SAW, SHOP, OVEN)), Crew((SAW, OVEN)), CREW.with_member(Door("shop", 4, 21))):
            self.refuses(None, made.joined, Comings(crew))
            self.refuses(None, Comings(crew).joined, made)
        alike = Crew((Task("saw", 3, 10, due=8), OVEN, Door("shop", 4, 20)))
        self.assertEqual(made.joined(Comings(alike)), made)

    def test_what_is_no_comings(self):
        for made in (Comings(CREW), Comings(CREW, ROWS)):
            for thing in NO_WHOLES + (0, CREW, made.rows, list(made.rows), str(made), Comings):
                self.refuses(None, made.joined, thing)

    def test_too_many_together(self):
        half = Comings(CREW, tuple([("shop", time, 1) for time in range(500)]))
        self.assertEqual(len(half.joined(half)), 1000)
        more = half.joined(Comings(CREW, (("saw", 0, 1),)))
        self.refuses(None, more.joined, half)
        self.refuses(None, half.joined, more)
        # Too many goes ahead of too near.
        self.refuses(None, more.joined, more)

    def test_joined_is_as_handed_in_together(self):
        chance = random.Random(7)
        for time in range(200):
            crew = some_crew(chance)
            rows = some_rows(chance, crew)
            cut = chance.randint(0, len(rows))
            one, other = Comings(crew, rows[:cut]), Comings(crew, rows[cut:])
            self.assertEqual(one.joined(other), Comings(crew, one.rows + other.rows))


class AlikeComings(Comparing):
    def test_alike(self):
        self.compare(Comings(CREW), Comings(Crew((SAW, OVEN, SHOP)), ()), True)
        self.compare(Comings(CREW, ROWS), Comings(CREW, ORDERED), True)
        self.compare(Comings(CREW, (("saw", 0, None),)), Comings(CREW, (("saw", 0, 3),)), True)
        one, other = ("saw", 10, 1), ("saw", 0, 2)
        self.compare(Comings(CREW, (one, other)), Comings(CREW, (other, one)), True)

    def test_unlike(self):
        made = Comings(CREW, (("saw", 0, 1), ("shop", 5, 1)))
        for other in (
            Comings(CREW), Comings(CREW, (("saw", 0, 1),)), Comings(CREW, (("saw", 0, 2), ("shop", 5, 1))),
            Comings(CREW, (("saw", 1, 1), ("shop", 5, 1))), Comings(CREW, (("oven", 0, 1), ("shop", 5, 1))),
            Comings(Crew((SAW, SHOP)), made.rows), Comings(Crew((OVEN, SAW, SHOP)), made.rows), made.moved(1),
            Comings(CREW.with_member(Task("saw", 3, 10)), made.rows),
        ):
            self.compare(made, other, False)
        rows = (("shop", 5, 1), ("shop", 5, 2))
        self.compare(Comings(CREW, rows), Comings(CREW, rows[::-1]), False)

    def test_other_things_never_are(self):
        for made in (Comings(CREW), Comings(CREW, ROWS)):
            for thing in NO_WHOLES + (0, 6, made.rows, list(made.rows), str(made), repr(made), CREW, SAW):
                self.assertIs(made == thing, False)
                self.assertIs(made != thing, True)
                if not isinstance(thing, (Alike, Sore)):
                    self.compare(made, thing, False)


class Signs(unittest.TestCase):
    def test_len_and_truth(self):
        for many in (0, 1, 2, 17, 1000):
            made = Comings(CREW, tuple([("shop", time, 1) for time in range(many)]))
            self.assertEqual(len(made), many)
            self.assertIs(bool(made), many > 0)

    def test_str(self):
        self.assertEqual(str(Comings(CREW)), "")
        self.assertEqual(str(Comings(CREW, (("saw", FAR, None),))), "saw 1000000000 3")
        self.assertEqual(
            str(Comings(CREW, ROWS)), "shop 0 4\nsaw 3 1\noven 3 5\nshop 4 99\nshop 4 1\noven 10 5"
        )

    def test_repr(self):
        self.assertEqual(repr(Comings(CREW)), "Comings(0)")
        self.assertEqual(repr(Comings(CREW, ROWS)), "Comings(6)")

    def test_asking_changes_nothing(self):
        made = Comings(CREW, ROWS)
        for again in range(2):
            made.moved(5)
            made.joined(Comings(CREW))
            with self.assertRaises(NoComings):
                made.joined(made)
            with self.assertRaises(NoNumber):
                made.moved(-1)
            self.assertEqual((made.rows, len(made)), (ORDERED, 6))
        self.assertEqual(CREW, Crew((SAW, OVEN, SHOP)))


if __name__ == "__main__":
    unittest.main()
