"""Tasks and doors (point 4, their rows of point 6, and point 2 for both)."""

import inspect
import itertools
import unittest

from duetimes import members
from duetimes.errors import NoDoor, NoNumber, NoTask, TimeError
from duetimes.members import Door, Task
from things import HUGE, NO_NAMES, NO_WHOLES, OTHER_KINDS, Alike, Sore


def task_values(task):
    return (task.name, task.cost, task.gap, task.due, task.holds)


def door_values(door):
    return (door.name, door.room, door.gap)


class Members(unittest.TestCase):
    def refuses_task(self, part, *row, **more):
        with self.assertRaises(NoTask) as caught:
            Task(*row, **more)
        self.assertIsInstance(caught.exception, TimeError)
        self.assertEqual(caught.exception.part, part)

    def refuses_door(self, part, *row, **more):
        with self.assertRaises(NoDoor) as caught:
            Door(*row, **more)
        self.assertIsInstance(caught.exception, TimeError)
        self.assertEqual(caught.exception.part, part)


class Interface(unittest.TestCase):
    def test_classes_stand_in_this_file_with_their_methods(self):
        for found in (Task, Door):
            self.assertEqual(found.__module__, "duetimes.members")
            for method in ("__init__", "__eq__", "__len__", "__str__", "__repr__"):
                self.assertIn(method, vars(found))
        self.assertIn("held", vars(Task))
        self.assertIs(members.Task, Task)

    def test_arguments(self):
        self.assertEqual(str(inspect.signature(Task)), "(name, cost, gap, *, due=None, holds=())")
        self.assertEqual(str(inspect.signature(Door)), "(name, room, gap)")
        self.assertEqual(str(inspect.signature(Task.held)), "(self, done)")

    def test_what_stands_behind_the_star_goes_by_name_alone(self):
        with self.assertRaises(TypeError):
            Task("a", 1, 2, 2)


class MakingTasks(Members):
    def test_ordinary_values(self):
        task = Task("press", 7, 40, due=30, holds=(("oven", 1, 3), ("saw", 0, 7)))
        self.assertEqual(task_values(task), ("press", 7, 40, 30, (("oven", 1, 3), ("saw", 0, 7))))

    def test_values_stand_on_the_object(self):
        found = vars(Task("a", 1, 2))
        self.assertEqual([found[part] for part in ("name", "cost", "gap", "due", "holds")], ["a", 1, 2, 2, ()])

    def test_arguments_by_place_and_by_name_in_any_turn(self):
        more = {"name": "a", "cost": 3, "gap": 9, "due": 5, "holds": (("t", 0, 2),)}
        for turn in itertools.permutations(more):
            task = Task(**{key: more[key] for key in turn})
            self.assertEqual(task_values(task), tuple(more.values()))
        self.assertEqual(task_values(Task("a", 3, holds=(), gap=9)), ("a", 3, 9, 9, ()))
        self.assertEqual(task_values(Task("a", gap=9, cost=3, due=4)), ("a", 3, 9, 4, ()))

    def test_names_at_their_bounds(self):
        for name in ("a", "z", "m", "az", "abcdefgh", "zzzzzzzz"):
            self.assertEqual(Task(name, 1, 1).name, name)
        for letter in "abcdefghijklmnopqrstuvwxyz":
            self.assertEqual(Task(letter * 8, 1, 1).name, letter * 8)

    def test_names_refused(self):
        for name in NO_NAMES:
            self.refuses_task("name", name, 1, 1)

    def test_cost_at_its_bounds(self):
        for cost in range(1, 100):
            self.assertEqual(Task("a", cost, 1).cost, cost)

    def test_cost_refused(self):
        for cost in NO_WHOLES + (0, -1, 100, 101, HUGE, -HUGE):
            self.refuses_task("cost", "a", cost, 50)

    def test_gap_at_its_bounds(self):
        for gap in range(1, 601):
            self.assertEqual(Task("a", 99, gap).gap, gap)

    def test_gap_refused(self):
        for gap in NO_WHOLES + (0, -1, 601, 602, HUGE, -HUGE):
            self.refuses_task("gap", "a", 1, gap)

    def test_due_at_its_bounds(self):
        for gap in (1, 2, 7, 600):
            for due in range(1, gap + 1):
                self.assertEqual(Task("a", 1, gap, due=due).due, due)
            self.assertEqual(Task("a", 1, gap, due=None).due, gap)
            self.assertEqual(Task("a", 1, gap).due, gap)

    def test_due_may_be_below_cost(self):
        self.assertEqual(task_values(Task("a", 99, 600, due=1)), ("a", 99, 600, 1, ()))

    def test_due_refused(self):
        for due in NO_WHOLES + (0, -1, 8, 9, 600, HUGE, -HUGE):
            if due is not None:
                self.refuses_task("due", "a", 1, 7, due=due)
        self.refuses_task("due", "a", 1, 600, due=601)
        self.refuses_task("due", "a", 1, 1, due=2)

    def test_the_first_part_that_is_not_so_is_told(self):
        good = {"name": "a", "cost": 5, "gap": 9, "due": 3, "holds": (("t", 0, 5),)}
        for odd in ([], "0", 0, False, Sore()):
            for many in range(1, 6):
                for parts in itertools.combinations(good, many):
                    self.refuses_task(parts[0], **{**good, **{part: odd for part in parts}})

    def test_what_is_handed_in_stays(self):
        holds = [("t", 0, 1)]
        self.refuses_task("holds", "a", 1, 1, holds=holds)
        self.assertEqual(holds, [("t", 0, 1)])


class HoldsOfTasks(Members):
    def test_right_holds(self):
        for holds in (
            (),
            (("t", 0, 1),),
            (("t", 0, 10),),
            (("t", 9, 1),),
            (("abcdefgh", 3, 4),),
            (("t", 0, 5), ("t", 5, 5)),
            (("t", 0, 1), ("t", 9, 1)),
            (("t", 0, 1), ("t", 1, 1), ("t", 2, 1), ("t", 3, 7)),
            (("a", 0, 10), ("b", 0, 10)),
            (("a", 5, 5), ("b", 0, 6)),
            (("a", 0, 2), ("b", 1, 2), ("c", 2, 2), ("d", 3, 2)),
            (("a", 0, 2), ("a", 3, 1), ("b", 0, 10), ("c", 1, 1)),
            (("a", 9, 1), ("aa", 0, 1)),
            (("me", 2, 2),),
        ):
            self.assertEqual(Task("me", 10, 20, holds=holds).holds, holds)

    def test_from_and_long_at_their_bounds(self):
        for start in range(0, 12):
            for long in range(0, 12):
                if long >= 1 and start + long <= 10:
                    self.assertEqual(Task("a", 10, 20, holds=(("t", start, long),)).holds, (("t", start, long),))
                else:
                    self.refuses_task("holds", "a", 10, 20, holds=(("t", start, long),))

    def test_no_tuple(self):
        for holds in NO_WHOLES + (0, 1, -1, HUGE):
            # () makes none, and one row of the things is a right one.
            if not isinstance(holds, tuple) or holds in ((1,), ("a",)):
                self.refuses_task("holds", "a", 5, 9, holds=holds)
        self.refuses_task("holds", "a", 5, 9, holds=[("t", 0, 1)])
        self.refuses_task("holds", "a", 5, 9, holds=("t", 0, 1))

    def test_rows_that_are_no_tuples(self):
        for row in OTHER_KINDS + ("", "abc", 0, 1, ["t", 0, 1], {"t": 0, 0: 1, 1: 1}):
            self.refuses_task("holds", "a", 5, 9, holds=(row,))
            self.refuses_task("holds", "a", 5, 9, holds=(("a", 0, 1), row))

    def test_rows_of_other_lengths(self):
        for row in ((), ("t",), ("t", 0), ("t", 0, 1, 1), ("t", 0, 1, None)):
            self.refuses_task("holds", "a", 5, 9, holds=(row,))

    def test_too_many(self):
        self.refuses_task("holds", "a", 9, 9, holds=tuple([("t", start, 1) for start in range(5)]))
        self.refuses_task("holds", "a", 9, 9, holds=tuple([(tool, 0, 1) for tool in "abcde"]))
        self.assertEqual(len(Task("a", 9, 9, holds=tuple([(tool, 0, 1) for tool in "abcd"])).holds), 4)

    def test_tools_that_are_no_names(self):
        for tool in NO_NAMES:
            self.refuses_task("holds", "a", 5, 9, holds=((tool, 0, 1),))

    def test_from_refused(self):
        for start in NO_WHOLES + (-1, 5, 6, HUGE, -HUGE):
            self.refuses_task("holds", "a", 5, 9, holds=(("t", start, 1),))

    def test_long_refused(self):
        for long in NO_WHOLES + (0, -1, 6, HUGE, -HUGE):
            self.refuses_task("holds", "a", 5, 9, holds=(("t", 0, long),))

    def test_not_rising_twice_or_over_one_another(self):
        for holds in (
            (("b", 0, 1), ("a", 0, 1)),
            (("b", 0, 1), ("a", 5, 1)),
            (("a", 0, 1), ("c", 0, 1), ("b", 0, 1)),
            (("b", 0, 1), ("c", 0, 1), ("a", 0, 1)),
            (("aa", 0, 1), ("a", 0, 1)),
            (("t", 1, 1), ("t", 0, 1)),
            (("t", 5, 5), ("t", 0, 5)),
            (("t", 0, 1), ("t", 0, 1)),
            (("t", 0, 1), ("t", 0, 2)),
            (("t", 0, 2), ("t", 1, 1)),
            (("t", 0, 2), ("t", 1, 2)),
            (("t", 0, 10), ("t", 4, 1)),
            (("s", 0, 1), ("t", 0, 5), ("t", 4, 1)),
            (("t", 0, 5), ("t", 4, 1), ("u", 0, 1)),
            (("t", 0, 1), ("t", 1, 1), ("t", 2, 2), ("t", 3, 1)),
        ):
            self.refuses_task("holds", "a", 10, 20, holds=holds)

    def test_a_wrong_row_anywhere(self):
        good = [("a", 0, 1), ("b", 1, 2), ("c", 2, 3), ("d", 3, 4)]
        self.assertEqual(Task("me", 9, 9, holds=tuple(good)).holds, tuple(good))
        for at in range(4):
            tool, start, long = good[at]
            for row in ((tool, start, 0), (tool, start, 9 - start + 1), (tool, -1, long), (tool, start), (7, start, 1)):
                self.refuses_task("holds", "me", 9, 9, holds=tuple([*good[:at], row, *good[at + 1:]]))


class MakingDoors(Members):
    def test_values_at_their_bounds(self):
        for name in ("a", "z", "abcdefgh"):
            for room in (1, 2, 50, 98, 99):
                for gap in (1, 2, 300, 599, 600):
                    self.assertEqual(door_values(Door(name, room, gap)), (name, room, gap))

    def test_values_stand_on_the_object(self):
        found = vars(Door("shop", 4, 10))
        self.assertEqual([found[part] for part in ("name", "room", "gap")], ["shop", 4, 10])

    def test_arguments_by_place_and_by_name_in_any_turn(self):
        more = {"name": "shop", "room": 4, "gap": 10}
        for turn in itertools.permutations(more):
            self.assertEqual(door_values(Door(**{key: more[key] for key in turn})), ("shop", 4, 10))
        self.assertEqual(door_values(Door("shop", gap=10, room=4)), ("shop", 4, 10))

    def test_names_refused(self):
        for name in NO_NAMES:
            self.refuses_door("name", name, 1, 1)

    def test_room_refused(self):
        for room in NO_WHOLES + (0, -1, 100, 101, HUGE, -HUGE):
            self.refuses_door("room", "a", room, 1)

    def test_gap_refused(self):
        for gap in NO_WHOLES + (0, -1, 601, 602, HUGE, -HUGE):
            self.refuses_door("gap", "a", 1, gap)

    def test_the_first_part_that_is_not_so_is_told(self):
        good = {"name": "a", "room": 5, "gap": 9}
        for odd in ([], "0", 0, False, None, Sore()):
            for many in range(1, 4):
                for parts in itertools.combinations(good, many):
                    self.refuses_door(parts[0], **{**good, **{part: odd for part in parts}})


class Held(unittest.TestCase):
    def test_strictly_within_holds(self):
        task = Task("a", 6, 9, holds=(("t", 1, 4),))
        self.assertEqual([task.held(done) for done in range(7)], [(), (), ("t",), ("t",), ("t",), (), ()])

    def test_of_one_moment_holds_at_no_point(self):
        task = Task("a", 3, 9, holds=(("t", 1, 1),))
        self.assertEqual([task.held(done) for done in range(4)], [(), (), (), ()])

    def test_the_whole_cost(self):
        task = Task("a", 3, 9, holds=(("t", 0, 3),))
        self.assertEqual([task.held(done) for done in range(4)], [(), ("t",), ("t",), ()])

    def test_free_between_two_side_by_side(self):
        task = Task("a", 4, 9, holds=(("t", 0, 2), ("t", 2, 2)))
        self.assertEqual([task.held(done) for done in range(5)], [(), ("t",), (), ("t",), ()])

    def test_apart(self):
        task = Task("a", 8, 9, holds=(("t", 0, 3), ("t", 5, 3)))
        self.assertEqual(
            [task.held(done) for done in range(9)], [(), ("t",), ("t",), (), (), (), ("t",), ("t",), ()]
        )

    def test_several_tools_rise(self):
        task = Task("a", 6, 9, holds=(("a", 3, 3), ("b", 0, 4), ("c", 1, 4)))
        self.assertEqual(
            [task.held(done) for done in range(7)],
            [(), ("b",), ("b", "c"), ("b", "c"), ("a", "c"), ("a",), ()],
        )

    def test_without_holds(self):
        task = Task("a", 99, 9)
        self.assertEqual({task.held(done) for done in range(100)}, {()})

    def test_all_tasks_with_two_holds(self):
        for one, two in itertools.product(itertools.product(range(4), range(1, 5)), repeat=2):
            if one[0] + one[1] <= 4 and two[0] + two[1] <= 4:
                task = Task("a", 4, 9, holds=(("s", *one), ("t", *two)))
                for done in range(5):
                    told = [tool for tool, start, long in task.holds if done in range(start + 1, start + long)]
                    self.assertEqual(task.held(done), tuple(told))

    def test_by_name(self):
        self.assertEqual(Task("a", 3, 9, holds=(("t", 0, 3),)).held(done=1), ("t",))

    def test_refused(self):
        task = Task("a", 5, 9, holds=(("t", 0, 5),))
        for done in NO_WHOLES + (-1, 6, 7, HUGE, -HUGE):
            with self.assertRaises(NoNumber) as caught:
                task.held(done)
            self.assertIs(caught.exception.number, done)
            self.assertIsInstance(caught.exception, TimeError)
        with self.assertRaises(NoNumber):
            task.held(done=True)


class AlikeMembers(unittest.TestCase):
    def are_alike(self, one, other):
        for left, right in ((one, other), (other, one)):
            self.assertIs(left == right, True)
            self.assertIs(left != right, False)
            self.assertIn(left, (right,))
            self.assertIn(left, ["other thing", right])

    def are_unlike(self, one, other):
        for left, right in ((one, other), (other, one)):
            self.assertIs(left == right, False)
            self.assertIs(left != right, True)
            self.assertNotIn(left, (right,))
            self.assertNotIn(left, ["other thing", right])

    def test_tasks_alike(self):
        holds = (("t", 0, 2), ("u", 1, 1))
        self.are_alike(Task("a", 3, 9, due=5, holds=holds), Task("a", 3, 9, due=5, holds=tuple(list(holds))))
        self.are_alike(Task("a", 3, 9), Task("a", 3, 9, due=9, holds=()))
        self.are_alike(Task("a", 3, 9, due=None), Task(name="a", gap=9, cost=3))

    def test_tasks_unlike_by_each_value(self):
        task = Task("a", 3, 9, due=5, holds=(("t", 0, 2),))
        for other in (
            Task("b", 3, 9, due=5, holds=(("t", 0, 2),)),
            Task("a", 4, 9, due=5, holds=(("t", 0, 2),)),
            Task("a", 3, 8, due=5, holds=(("t", 0, 2),)),
            Task("a", 3, 9, due=6, holds=(("t", 0, 2),)),
            Task("a", 3, 9, holds=(("t", 0, 2),)),
            Task("a", 3, 9, due=5, holds=(("u", 0, 2),)),
            Task("a", 3, 9, due=5, holds=(("t", 1, 2),)),
            Task("a", 3, 9, due=5, holds=(("t", 0, 3),)),
            Task("a", 3, 9, due=5, holds=(("t", 0, 2), ("t", 2, 1))),
            Task("a", 3, 9, due=5),
        ):
            self.are_unlike(task, other)

    def test_doors_alike_and_unlike(self):
        self.are_alike(Door("a", 3, 9), Door(gap=9, room=3, name="a"))
        for other in (Door("b", 3, 9), Door("a", 4, 9), Door("a", 3, 8)):
            self.are_unlike(Door("a", 3, 9), other)

    def test_a_task_and_a_door_never_are(self):
        self.are_unlike(Task("a", 3, 9), Door("a", 3, 9))
        self.are_unlike(Task("a", 9, 9), Door("a", 9, 9))

    def test_other_things_never_are(self):
        for member in (Task("a", 3, 9), Door("a", 3, 9)):
            for thing in NO_WHOLES + (3, str(member), repr(member), ("a", 3, 9, 9, ()), ("a", 3, 9), vars(member)):
                self.assertIs(member == thing, False)
                self.assertIs(member != thing, True)
                if not isinstance(thing, (Alike, Sore)):
                    self.are_unlike(member, thing)


class Signs(unittest.TestCase):
    def test_len_and_truth(self):
        for number in range(1, 100):
            for member in (Task("a", number, 7), Door("a", number, 7)):
                self.assertEqual(len(member), number)
                self.assertIs(bool(member), True)

    def test_str_of_tasks(self):
        self.assertEqual(str(Task("a", 1, 1)), "task a 1 1 1")
        self.assertEqual(str(Task("abcdefgh", 99, 600, due=10)), "task abcdefgh 99 600 10")
        self.assertEqual(str(Task("a", 3, 9, due=5, holds=(("t", 0, 2),))), "task a 3 9 5 t 0 2")
        self.assertEqual(
            str(Task("a", 20, 600, holds=(("s", 0, 2), ("t", 2, 10), ("task", 10, 10), ("u", 7, 1)))),
            "task a 20 600 600 s 0 2 t 2 10 task 10 10 u 7 1",
        )

    def test_str_of_doors(self):
        self.assertEqual(str(Door("a", 1, 1)), "door a 1 1")
        self.assertEqual(str(Door("abcdefgh", 99, 600)), "door abcdefgh 99 600")

    def test_repr(self):
        self.assertEqual(repr(Task("saw", 3, 9, holds=(("t", 0, 2),))), "Task(saw)")
        self.assertEqual(repr(Door("shop", 3, 9)), "Door(shop)")

    def test_asking_changes_nothing(self):
        task = Task("a", 3, 9, due=5, holds=(("t", 0, 2),))
        before = dict(vars(task))
        task.held(1), str(task), repr(task), len(task), task == task
        with self.assertRaises(NoNumber):
            task.held(4)
        self.assertEqual(vars(task), before)


if __name__ == "__main__":
    unittest.main()
