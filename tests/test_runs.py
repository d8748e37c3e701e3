"""Runs (points 10 and 11, and points 2 and 3 for them)."""

import inspect
import random
import unittest

from duetimes import runs
from duetimes.comings import Comings
from duetimes.crews import Crew
from duetimes.demand import lets_in
from duetimes.errors import NoComings, NoNumber, TimeError
from duetimes.members import Door, Task
from duetimes.runs import Run, played
from plain import PlainRun, some_crew, some_rows
from things import HUGE, NO_WHOLES, Alike, Comparing, Sore

FAR = 10 ** 9
A = Task("a", 3, 10, due=8)
B = Task("b", 4, 12, due=12)
DOOR = Door("d", 3, 10)
CREW = Crew((A, B, DOOR))


def values(run):
    return (run.last, run.pieces, run.works, run.comers, run.late())


def plain_values(run):
    return (run.last, run.pieces(), run.work_rows(), run.comer_rows(), run.late())


class Asking(unittest.TestCase):
    def check(self, crew, rows, until=None):
        """The run, which is as the plain one."""
        run = played(Comings(crew, rows), until=until)
        self.assertEqual(values(run), plain_values(PlainRun(crew, rows, until)))
        return run

    def refuses_number(self, number, ask, *row, **more):
        with self.assertRaises(NoNumber) as caught:
            ask(*row, **more)
        self.assertIsInstance(caught.exception, TimeError)
        self.assertIs(caught.exception.number, number)


class Interface(Asking):
    def test_names_stand_in_this_file(self):
        self.assertEqual((played.__module__, Run.__module__), ("duetimes.runs", "duetimes.runs"))
        self.assertIs(runs.played, played)
        self.assertIs(runs.Run, Run)
        for method in ("__init__", "__eq__", "__len__", "__str__", "__repr__", "late", "at"):
            self.assertIn(method, vars(Run))

    def test_arguments(self):
        self.assertEqual(str(inspect.signature(played)), "(comings, *, until=None)")
        self.assertEqual(str(inspect.signature(Run.late)), "(self)")
        self.assertEqual(str(inspect.signature(Run.at)), "(self, moment)")
        made = Comings(CREW, (("a", 0, 2),))
        self.assertEqual(played(until=1, comings=made), played(made, until=1))
        self.assertEqual(played(made).at(moment=1), ("a", 0))
        with self.assertRaises(TypeError):
            played(made, 1)

    def test_values_stand_on_the_object(self):
        made = Comings(CREW, (("a", 0, 2), ("d", 1, 2)))
        run = played(made)
        self.assertIsInstance(run, Run)
        self.assertIs(vars(run)["comings"], made)
        self.assertEqual(vars(run)["last"], 4)
        self.assertEqual(vars(run)["pieces"], ((0, 2, "a", 0), (2, 4, "d", 0)))
        self.assertEqual(vars(run)["works"], (("a", 0, 0, 8, 0, 2), ("d", 0, 1, 11, 2, 4)))
        self.assertEqual(vars(run)["comers"], (("d", 0, 1, 2, 4),))

    def test_what_is_no_comings(self):
        made = Comings(CREW)
        for thing in NO_WHOLES + (0, HUGE, CREW, A, made.rows, (("a", 0, 1),), str(made), played(made), Comings):
            for more in ({}, {"until": 5}, {"until": "5"}):
                with self.assertRaises(NoComings) as caught:
                    played(thing, **more)
                self.assertIsInstance(caught.exception, TimeError)
                self.assertIsNone(caught.exception.number)

    def test_what_is_no_until(self):
        for made in (Comings(CREW), Comings(CREW, (("a", 0, 2),))):
            for thing in NO_WHOLES + (-1, 10 ** 12 + 1, HUGE, -HUGE):
                if thing is not None:
                    self.refuses_number(thing, played, made, until=thing)


class Tasks(Asking):
    def test_no_works(self):
        for crew in (Crew(), CREW):
            run = played(Comings(crew))
            self.assertEqual(values(run), (0, (), (), (), ()))

    def test_one_work(self):
        run = self.check(CREW, (("a", 4, None),))
        self.assertEqual(values(run), (7, ((4, 7, "a", 0),), (("a", 0, 4, 12, 4, 7),), (), ()))

    def test_need_below_cost(self):
        run = self.check(CREW, (("b", 0, 1), ("a", 0, 2)))
        self.assertEqual(run.pieces, ((0, 2, "a", 0), (2, 3, "b", 0)))

    def test_the_one_due_first_goes_ahead_at_its_coming(self):
        run = self.check(CREW, (("b", 0, 4), ("a", 2, 3)))
        self.assertEqual(run.pieces, ((0, 2, "b", 0), (2, 5, "a", 0), (5, 7, "b", 0)))
        self.assertEqual(run.works, (("b", 0, 0, 12, 0, 7), ("a", 0, 2, 10, 2, 5)))

    def test_one_go_though_a_point_lies_between(self):
        run = self.check(CREW, (("a", 0, 3), ("b", 1, 2)))
        self.assertEqual(run.pieces, ((0, 3, "a", 0), (3, 5, "b", 0)))
        run = self.check(CREW, (("a", 0, 3), ("d", 1, 1), ("d", 2, 1)))
        self.assertEqual(run.pieces, ((0, 3, "a", 0), (3, 5, "d", 0)))

    def test_two_works_of_one_member_side_by_side_are_two_pieces(self):
        crew = Crew((Task("a", 2, 2),))
        run = self.check(crew, (("a", 0, 2), ("a", 2, 2), ("a", 4, 1)))
        self.assertEqual(run.pieces, ((0, 2, "a", 0), (2, 4, "a", 1), (4, 5, "a", 2)))

    def test_a_work_that_comes_at_the_point_at_which_another_ends(self):
        run = self.check(CREW, (("b", 0, 4), ("a", 4, 2)))
        self.assertEqual(run.pieces, ((0, 4, "b", 0), (4, 6, "a", 0)))
        self.assertEqual([row[5] for row in run.works], [4, 6])

    def test_works_by_coming_then_members_number(self):
        crew = Crew((B, DOOR, A))
        run = self.check(crew, (("a", 5, 1), ("d", 5, 1), ("b", 5, 1), ("a", 20, 1), ("d", 0, 2)))
        self.assertEqual([row[:3] for row in run.works], [
            ("d", 0, 0), ("b", 0, 5), ("a", 0, 5), ("d", 1, 10), ("a", 1, 20),
        ])

    def test_numbers_for_each_member(self):
        run = self.check(CREW, (("a", 0, 1), ("b", 3, 1), ("a", 10, 1), ("a", 20, 1), ("b", 15, 1)))
        self.assertEqual([row[:2] for row in run.works], [("a", 0), ("b", 0), ("a", 1), ("b", 1), ("a", 2)])

    def test_late_works_wait_on(self):
        crew = Crew((Task("a", 5, 3, due=2), Task("b", 2, 9, due=1)))
        run = self.check(crew, (("a", 0, None), ("a", 3, None), ("a", 6, None), ("b", 0, None)))
        self.assertEqual(run.last, 17)
        self.assertEqual(run.late(), ((1, "b", 0), (2, "a", 0), (5, "a", 1), (8, "a", 2)))

    def test_tools(self):
        crew = Crew((Task("slow", 6, 60, due=50, holds=(("t", 1, 4),)), Task("user", 2, 20, due=10, holds=(("t", 0, 1),))))
        for moment, pieces in (
            (1, ((0, 1, "slow", 0), (1, 3, "user", 0), (3, 8, "slow", 0))),
            (2, ((0, 5, "slow", 0), (5, 7, "user", 0), (7, 8, "slow", 0))),
            (4, ((0, 5, "slow", 0), (5, 7, "user", 0), (7, 8, "slow", 0))),
            (5, ((0, 5, "slow", 0), (5, 7, "user", 0), (7, 8, "slow", 0))),
        ):
            self.assertEqual(self.check(crew, (("slow", 0, None), ("user", moment, None))).pieces, pieces)
        # A work that needs less than COST sets its tools free when it is ended.
        run = self.check(crew, (("slow", 0, 3), ("user", 2, None)))
        self.assertEqual(run.pieces, ((0, 3, "slow", 0), (3, 5, "user", 0)))


class Doors(Asking):
    def test_one_comer(self):
        run = self.check(CREW, (("d", 4, 2),))
        self.assertEqual(values(run), (6, ((4, 6, "d", 0),), (("d", 0, 4, 14, 4, 6),), (("d", 0, 4, 2, 6),), ()))

    def test_several_at_once_as_handed_in(self):
        run = self.check(CREW, (("d", 0, 2), ("d", 0, 1)))
        self.assertEqual(run.comers, (("d", 0, 0, 2, 2), ("d", 1, 0, 1, 3)))
        run = self.check(CREW, (("d", 0, 1), ("d", 0, 2)))
        self.assertEqual(run.comers, (("d", 0, 0, 1, 1), ("d", 1, 0, 2, 3)))
        self.assertEqual(run.pieces, ((0, 3, "d", 0),))

    def test_more_than_room(self):
        run = self.check(CREW, (("d", 0, 7), ("d", 1, 1)))
        self.assertEqual(run.pieces, ((0, 3, "d", 0), (10, 13, "d", 1), (20, 22, "d", 2)))
        self.assertEqual(run.comers, (("d", 0, 0, 7, 21), ("d", 1, 1, 1, 22)))
        self.assertEqual([row[2:] for row in run.works], [(0, 10, 0, 3), (10, 20, 10, 13), (20, 30, 20, 22)])
        self.assertEqual(run.last, 22)

    def test_a_comer_joins_a_portion_that_waits(self):
        run = self.check(CREW, (("d", 0, 1), ("a", 0, 3), ("d", 2, 2)))
        self.assertEqual(run.pieces, ((0, 3, "a", 0), (3, 6, "d", 0)))
        self.assertEqual(run.comers, (("d", 0, 0, 1, 4), ("d", 1, 2, 2, 6)))

    def test_a_portion_ended_ahead_of_its_room(self):
        run = self.check(CREW, (("d", 0, 1), ("d", 2, 1)))
        self.assertEqual(run.pieces, ((0, 1, "d", 0), (10, 11, "d", 1)))
        run = self.check(CREW, (("d", 0, 1), ("d", 11, 1)))
        self.assertEqual(run.pieces, ((0, 1, "d", 0), (11, 12, "d", 1)))

    def test_a_comer_at_the_point_at_which_a_portion_ends(self):
        # It ends ahead of what comes, so the next one comes when GAP is over.
        run = self.check(CREW, (("d", 0, 1), ("d", 1, 1)))
        self.assertEqual(run.pieces, ((0, 1, "d", 0), (10, 11, "d", 1)))
        run = self.check(CREW, (("d", 0, 2), ("d", 1, 1)))
        self.assertEqual(run.pieces, ((0, 3, "d", 0),))

    def test_a_gap_that_is_just_over(self):
        for moment, begins in ((8, 10), (9, 10), (10, 10), (11, 11)):
            self.assertEqual(self.check(CREW, (("d", 0, 3), ("d", moment, 1))).works[1][2:5], (begins, begins + 10, begins))

    def test_a_late_portion_keeps_the_next_one_away(self):
        crew = Crew((Door("d", 2, 3), Task("a", 9, 9, due=1)))
        run = self.check(crew, (("a", 0, None), ("d", 0, 4), ("d", 0, 1)))
        self.assertEqual(run.late()[0], (1, "a", 0))
        crew = Crew((Task("a", 9, 9, due=1), Door("d", 2, 3)))
        run = self.check(crew, (("a", 0, None), ("d", 0, 4), ("d", 3, 1)))
        self.assertEqual([row[2] for row in run.works if row[0] == "d"], [0, 11, 14])

    def test_a_portion_that_comes_where_one_ends(self):
        crew = Crew((Door("d", 2, 2),))
        run = self.check(crew, (("d", 0, 5),))
        self.assertEqual(run.pieces, ((0, 2, "d", 0), (2, 4, "d", 1), (4, 5, "d", 2)))

    def test_two_doors(self):
        crew = Crew((Door("d", 2, 5), Door("e", 1, 4)))
        run = self.check(crew, (("d", 0, 3), ("e", 0, 3), ("d", 0, 1)))
        self.assertEqual([row[:3] for row in run.works], [
            ("d", 0, 0), ("e", 0, 0), ("e", 1, 4), ("d", 1, 5), ("e", 2, 8),
        ])

    def test_a_portion_is_held_up(self):
        crew = Crew((
            Task("slow", 6, 60, due=50, holds=(("t", 0, 5),)), Task("user", 2, 20, due=10, holds=(("t", 0, 1),)), DOOR,
            Door("e", 1, 9),
        ))
        run = self.check(crew, (("slow", 0, None), ("d", 2, 3), ("e", 3, 1)))
        self.assertEqual(run.pieces, ((0, 5, "slow", 0), (5, 8, "d", 0), (8, 9, "e", 0), (9, 10, "slow", 0)))
        run = self.check(crew, (("slow", 0, None), ("e", 3, 1)))
        self.assertEqual(run.pieces, ((0, 3, "slow", 0), (3, 4, "e", 0), (4, 7, "slow", 0)))

    def test_comers_as_in_rows(self):
        crew = Crew((Door("d", 2, 5), A, Door("e", 1, 4)))
        rows = (("e", 3, 1), ("d", 3, 2), ("a", 3, 1), ("e", 0, 2), ("d", 3, 1))
        run = self.check(crew, rows)
        told = [(name, comes, need) for name, number, comes, need, ends in run.comers]
        self.assertEqual(told, [row for row in Comings(crew, rows).rows if row[0] != "a"])


class Until(Asking):
    ROWS = (("b", 0, 4), ("a", 2, 3), ("d", 1, 5))

    def test_every_point(self):
        for until in range(40):
            run = self.check(CREW, self.ROWS, until)
            self.assertEqual(run.last, until)

    def test_nothing_yet(self):
        run = played(Comings(CREW, self.ROWS), until=0)
        self.assertEqual(values(run), (0, (), (), (), ()))

    def test_at_a_coming_it_did_not_come_yet(self):
        run = played(Comings(CREW, self.ROWS), until=2)
        self.assertEqual([row[0] for row in run.works], ["b", "d"])
        run = played(Comings(CREW, self.ROWS), until=1)
        self.assertEqual((run.works, run.comers), ((("b", 0, 0, 12, 0, None),), ()))

    def test_no_portion_comes_at_it(self):
        self.assertEqual(len(played(Comings(CREW, (("d", 0, 4),)), until=10).works), 1)
        self.assertEqual(played(Comings(CREW, (("d", 0, 4),)), until=11).works[1], ("d", 1, 10, 20, 10, 11))

    def test_what_is_ended_at_it_is_ended(self):
        made = Comings(CREW, (("a", 0, 3), ("d", 0, 2)))
        self.assertEqual(played(made, until=3).works, (("a", 0, 0, 8, 0, 3), ("d", 0, 0, 10, None, None)))
        self.assertEqual(played(made, until=2).works[0], ("a", 0, 0, 8, 0, None))
        self.assertEqual(played(made, until=5).comers, (("d", 0, 0, 2, 5),))
        self.assertEqual(played(made, until=4).comers, (("d", 0, 0, 2, None),))
        self.assertEqual(played(made, until=4).works[1], ("d", 0, 0, 10, 3, None))

    def test_within_a_piece(self):
        run = played(Comings(CREW, (("b", 5, 4),)), until=7)
        self.assertEqual(run.pieces, ((5, 7, "b", 0),))

    def test_behind_all(self):
        run = played(Comings(CREW, (("b", 5, 4),)), until=10 ** 12)
        self.assertEqual(values(run), (10 ** 12, ((5, 9, "b", 0),), (("b", 0, 5, 17, 5, 9),), (), ()))
        self.assertEqual(played(Comings(CREW), until=10 ** 12).last, 10 ** 12)
        self.assertEqual(played(Comings(CREW), until=7).last, 7)

    def test_none(self):
        self.assertEqual(played(Comings(CREW, self.ROWS), until=None), played(Comings(CREW, self.ROWS)))


class FarMoments(Asking):
    def test_are_leapt_over(self):
        run = played(Comings(CREW, (("a", 0, 3), ("a", FAR, 3), ("d", FAR, 7), ("b", 5 * 10 ** 8, 1))))
        self.assertEqual(run.last, FAR + 21)
        self.assertEqual(run.pieces, (
            (0, 3, "a", 0), (5 * 10 ** 8, 5 * 10 ** 8 + 1, "b", 0), (FAR, FAR + 3, "a", 1), (FAR + 3, FAR + 6, "d", 0),
            (FAR + 10, FAR + 13, "d", 1), (FAR + 20, FAR + 21, "d", 2),
        ))
        self.assertEqual(run.at(FAR), ("a", 1))

    def test_moved_runs_are_alike(self):
        chance = random.Random(21)
        for time in range(40):
            crew = some_crew(chance)
            made = Comings(crew, some_rows(chance, crew))
            near, far = played(made), played(made.moved(FAR - 80))
            by = FAR - 80
            self.assertEqual(far.last, near.last + by)
            self.assertEqual(far.pieces, tuple([(start + by, end + by, *who) for start, end, *who in near.pieces]))

    def test_a_thousand_works(self):
        crew = Crew((Task("a", 5, 600), Door("d", 2, 600)))
        rows = [("a", 10 ** 6 * time, None) for time in range(500)] + [("d", 10 ** 6 * time, 2) for time in range(500)]
        run = played(Comings(crew, tuple(rows)))
        self.assertEqual((len(run), len(run.works), len(run.comers)), (1000, 1000, 500))
        self.assertEqual(run.last, 499 * 10 ** 6 + 7)
        self.assertEqual(run.late(), ())


class Late(Asking):
    CREW = Crew((Task("a", 5, 9, due=4), Task("b", 9, 20, due=12)))

    def test_at_a_due_that_is_just_last(self):
        made = Comings(self.CREW, (("a", 0, 5),))
        for until, told in ((3, ()), (4, ((4, "a", 0),)), (5, ((4, "a", 0),)), (100, ((4, "a", 0),))):
            self.assertEqual(played(made, until=until).late(), told)
        self.assertEqual(played(made).late(), ((4, "a", 0),))

    def test_ended_just_at_due(self):
        made = Comings(self.CREW, (("a", 0, 4),))
        for until in (None, 3, 4, 5, 100):
            self.assertEqual(played(made, until=until).late(), ())

    def test_rising_by_due_then_name(self):
        crew = Crew((Task("z", 9, 9, due=3), Task("b", 9, 9, due=3), Task("a", 9, 9, due=3), Task("c", 9, 9, due=2)))
        run = self.check(crew, tuple([(name, 0, None) for name in "zbac"]))
        self.assertEqual(run.late(), ((2, "c", 0), (3, "a", 0), (3, "b", 0), (3, "z", 0)))
        self.assertIsInstance(run.late(), tuple)

    def test_works_that_never_began(self):
        run = played(Comings(self.CREW, (("a", 0, 5), ("b", 0, 9))), until=12)
        self.assertEqual(run.late(), ((4, "a", 0), (12, "b", 0)))

    def test_portions(self):
        crew = Crew((Task("a", 9, 9, due=1), Door("d", 2, 3)))
        self.assertEqual(self.check(crew, (("a", 0, None), ("d", 0, 2))).late(), ((1, "a", 0), (3, "d", 0)))


class At(Asking):
    def test_served_idle_and_behind_all(self):
        run = played(Comings(CREW, (("b", 1, 4), ("a", 3, 2), ("d", 9, 1))))
        told = [None, ("b", 0), ("b", 0), ("a", 0), ("a", 0), ("b", 0), ("b", 0), None, None, ("d", 0), None, None]
        self.assertEqual([run.at(moment) for moment in range(12)], told)
        for moment in (13, FAR, 10 ** 12 + 5, HUGE):
            self.assertIsNone(run.at(moment))
        self.assertIsNone(played(Comings(CREW)).at(0))

    def test_things_of_any_kind(self):
        for run in (played(Comings(CREW)), played(Comings(CREW, (("a", 0, 2),)))):
            for thing in NO_WHOLES + (-1, -2, -HUGE):
                self.refuses_number(thing, run.at, thing)


class AgainstThePlainOne(Asking):
    def test_runs(self):
        chance = random.Random(31)
        for time in range(500):
            crew = some_crew(
                chance, most=5, costs=chance.choice((2, 4, 8)), doors=chance.choice((0, 0.3, 0.8)),
                holds=chance.choice((0, 0.6, 1)),
            )
            rows = some_rows(chance, crew)
            run = self.check(crew, rows, chance.choice((None, None, chance.randint(0, 80))))
            if lets_in(crew)[0] == "in":
                self.assertEqual(run.late(), ())

    def test_at(self):
        chance = random.Random(32)
        for time in range(30):
            crew = some_crew(chance)
            rows = some_rows(chance, crew)
            run, plain = played(Comings(crew, rows)), PlainRun(crew, rows)
            self.assertEqual([run.at(moment) for moment in range(plain.last)], [who for note, who in plain.moments])


class Signs(Comparing):
    def test_alike(self):
        made = Comings(CREW, (("a", 0, 2), ("b", 3, 1)))
        self.compare(played(made), played(Comings(CREW, (("b", 3, 1), ("a", 0, 2)))), True)
        self.compare(played(made), played(made, until=4), True)
        self.compare(played(Comings(CREW)), played(Comings(CREW), until=0), True)

    def test_unlike(self):
        made = Comings(CREW, (("a", 0, 2), ("d", 3, 1)))
        run = played(made)
        for other in (
            played(made, until=5), played(made, until=3), played(Comings(CREW)), played(made.moved(1)),
            played(Comings(CREW, (("a", 0, 2), ("d", 3, 1), ("b", FAR, 1))), until=4),
            played(Comings(CREW.with_member(Task("e", 1, 9)), made.rows)),
        ):
            self.compare(run, other, False)
        parts = {"comings": made, "last": run.last, "pieces": run.pieces, "works": run.works, "comers": run.comers}
        self.compare(run, Run(**parts), True)
        for key, worth in (("comings", Comings(CREW)), ("last", 5), ("pieces", ()), ("works", ()), ("comers", ())):
            self.compare(run, Run(**{**parts, key: worth}), False)

    def test_other_things_never_are(self):
        for run in (played(Comings(CREW)), played(Comings(CREW, (("a", 0, 2),)))):
            for thing in NO_WHOLES + (0, 1, 2, run.pieces, list(run.pieces), str(run), repr(run), run.comings, CREW):
                self.assertIs(run == thing, False)
                self.assertIs(run != thing, True)
                if not isinstance(thing, (Alike, Sore)):
                    self.compare(run, thing, False)

    def test_len_and_truth(self):
        for rows, until, many in (
            ((), None, 0), ((), 9, 0), ((("a", 5, 2),), 5, 0), ((("a", 5, 2),), 6, 1), ((("a", 0, 2), ("b", 0, 2)), None, 2),
        ):
            run = played(Comings(CREW, rows), until=until)
            self.assertEqual(len(run), many)
            self.assertIs(bool(run), many > 0)

    def test_str(self):
        self.assertEqual(str(played(Comings(CREW))), "")
        self.assertEqual(str(played(Comings(CREW, (("a", 5, 2),)))), "5 7 a 0")
        run = played(Comings(CREW, (("b", 0, 4), ("a", 2, 3), ("a", 12, 1))))
        self.assertEqual(str(run), "0 2 b 0\n2 5 a 0\n5 7 b 0\n12 13 a 1")

    def test_repr(self):
        self.assertEqual(repr(played(Comings(CREW))), "Run(0)")
        self.assertEqual(repr(played(Comings(CREW, (("a", 5, 2),)))), "Run(7)")
        self.assertEqual(repr(played(Comings(CREW, (("a", 5, 2),)), until=10 ** 12)), "Run(1000000000000)")

    def test_rows_are_tuples_and_nothing_is_changed(self):
        made = Comings(CREW, (("a", 0, 2), ("d", 3, 1)))
        before = (str(made), str(CREW))
        run = played(made)
        again = played(made)
        run.late()
        run.at(0)
        self.assertEqual(run, again)
        self.assertEqual((str(made), str(CREW)), before)
        for rows in (run.pieces, run.works, run.comers, run.late()):
            self.assertIsInstance(rows, tuple)
            for row in rows:
                self.assertIsInstance(row, tuple)


if __name__ == "__main__":
    unittest.main()
