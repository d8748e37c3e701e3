"""The rule (point 9, and point 2 for it)."""

import inspect
import itertools
import random
import unittest

from duetimes import rule
from duetimes.crews import Crew
from duetimes.errors import NoCrew, NoWorks, TimeError
from duetimes.members import Door, Task
from duetimes.rule import served
from plain import cost_of, pick, some_crew
from things import HUGE, NO_NAMES, NO_WHOLES, OTHER_KINDS

# A tool of level 10, held by a task with a far DUE while it has been served 1 to 3 moments.
SLOW = Task("slow", 5, 90, due=50, holds=(("t", 0, 4),))
USER = Task("user", 2, 20, due=10, holds=(("t", 0, 1),))
FAST = Task("fast", 2, 20, due=9)
SAME = Task("same", 2, 20, due=10)
LAZY = Task("lazy", 2, 20, due=11)
NEAR = Door("near", 2, 9)
DOOR = Door("door", 2, 10)
CREW = Crew((SLOW, USER, FAST, SAME, LAZY, NEAR, DOOR))


class Asking(unittest.TestCase):
    def tells(self, told, *works, crew=CREW):
        found = served(crew, works)
        self.assertEqual(found, told)
        self.assertIs(type(found), type(told))
        self.assertEqual(pick(crew, works), told)

    def refuses(self, number, works, crew=CREW):
        with self.assertRaises(NoWorks) as caught:
            served(crew, works)
        self.assertIsInstance(caught.exception, TimeError)
        self.assertIs(type(caught.exception.number), type(number))
        self.assertEqual(caught.exception.number, number)


class Interface(unittest.TestCase):
    def test_the_function_stands_in_this_file(self):
        self.assertEqual(served.__module__, "duetimes.rule")
        self.assertIs(rule.served, served)
        self.assertEqual(str(inspect.signature(served)), "(crew, works)")

    def test_by_place_and_by_name(self):
        works = (("fast", 0, 0),)
        for told in (served(CREW, works=works), served(crew=CREW, works=works), served(works=works, crew=CREW)):
            self.assertEqual(told, (0, None))


class First(Asking):
    def test_no_work(self):
        self.assertIsNone(served(CREW, ()))
        self.assertIsNone(served(Crew(), ()))

    def test_one_work(self):
        for member in CREW.members:
            for done in range(cost_of(member)):
                for comes in (0, 1, 10 ** 12):
                    self.tells((0, None), (member.name, comes, done))

    def test_the_one_due_first(self):
        self.tells((1, None), ("lazy", 0, 0), ("same", 0, 0))
        self.tells((0, None), ("lazy", 0, 0), ("same", 2, 0))
        self.tells((2, None), ("lazy", 5, 1), ("door", 5, 1), ("fast", 5, 0))
        self.tells((1, None), ("near", 7, 0), ("door", 5, 0))
        self.tells((0, None), ("slow", 0, 1), ("user", 41, 0))

    def test_in_any_turn(self):
        works = (("fast", 3, 0), ("same", 1, 1), ("lazy", 4, 0), ("near", 3, 1), ("door", 3, 0))
        for turn in itertools.permutations(works):
            self.tells((turn.index(("same", 1, 1)), None), *turn)

    def test_due_at_once_by_members_number(self):
        self.tells((1, None), ("door", 0, 1), ("same", 0, 0))
        self.tells((0, None), ("same", 0, 0), ("door", 0, 1))
        self.tells((1, None), ("near", 2, 0), ("fast", 2, 0))
        # Due at 12 all: the member's number goes ahead of the coming.
        self.tells((2, None), ("lazy", 1, 0), ("same", 2, 0), ("fast", 3, 0))
        self.tells((1, None), ("door", 2, 1), ("fast", 3, 0))
        turned = Crew(CREW.members[::-1])
        self.tells((0, None), ("lazy", 1, 0), ("same", 2, 0), ("fast", 3, 0), crew=turned)
        self.tells((0, None), ("door", 2, 1), ("fast", 3, 0), crew=turned)

    def test_of_one_member_the_one_that_came_first(self):
        self.tells((1, None), ("fast", 1, 0), ("fast", 0, 0))
        self.tells((0, None), ("fast", 0, 0), ("fast", 1, 1))
        self.tells((2, None), ("near", 9, 1), ("near", 8, 1), ("near", 7, 0))

    def test_one_that_is_begun_goes_on_only_as_the_first(self):
        self.tells((1, None), ("lazy", 0, 1), ("fast", 1, 0))
        self.tells((0, None), ("lazy", 0, 1), ("fast", 3, 0))


class HeldUp(Asking):
    def test_by_a_tool_that_it_uses_and_by_one_that_it_does_not(self):
        for name in ("user", "same", "lazy", "door"):
            self.tells((0, 1), ("slow", 0, 1), (name, 5, 0))
            self.tells((1, 0), (name, 5, 0), ("slow", 0, 3))

    def test_levels_at_above_and_below_a_due(self):
        self.tells((1, None), ("slow", 0, 1), ("fast", 5, 0))
        self.tells((1, None), ("slow", 0, 1), ("near", 5, 0))
        self.tells((0, 1), ("slow", 0, 1), ("same", 5, 0))
        self.tells((0, 1), ("slow", 0, 1), ("door", 5, 0))
        self.tells((0, 1), ("slow", 0, 1), ("lazy", 5, 0))

    def test_only_while_the_tool_is_held(self):
        for done, told in ((0, (1, None)), (1, (0, 1)), (2, (0, 1)), (3, (0, 1)), (4, (1, None))):
            self.tells(told, ("slow", 0, done), ("user", 5, 0))

    def test_holds_side_by_side_leave_it_free_between(self):
        slow = Task("slow", 6, 90, holds=(("t", 0, 3), ("t", 3, 3)))
        crew = Crew((slow, USER))
        for done, told in ((1, (0, 1)), (2, (0, 1)), (3, (1, None)), (4, (0, 1)), (5, (0, 1))):
            self.tells(told, ("slow", 0, done), ("user", 5, 0), crew=crew)

    def test_one_that_is_begun_is_never_held_up(self):
        for name in ("user", "same", "lazy", "door"):
            self.tells((1, None), ("slow", 0, 1), (name, 5, 1))

    def test_of_those_begun_the_first_is_served(self):
        # Not the one that holds the tool, and not one that isn't begun.
        self.tells((2, 1), ("slow", 0, 1), ("same", 5, 0), ("lazy", 8, 1))
        self.tells((0, 1), ("slow", 0, 1), ("same", 5, 0), ("lazy", 8, 0))
        self.tells((2, 3), ("slow", 0, 2), ("lazy", 6, 1), ("near", 7, 1), ("same", 5, 0), ("fast", 40, 1))

    def test_the_first_alone_is_asked(self):
        # Another one that is held up changes nothing where the first isn't.
        self.tells((2, None), ("slow", 0, 1), ("same", 5, 0), ("fast", 5, 0))
        # One that isn't held up itself waits with a first that is.
        self.tells((0, 1), ("slow", 0, 1), ("same", 5, 0), ("fast", 7, 0))

    def test_by_another_work_of_the_same_member(self):
        own = Crew((Task("a", 5, 20, due=20, holds=(("t", 0, 4),)),))
        self.tells((1, 0), ("a", 0, 0), ("a", 20, 1), crew=own)
        self.tells((0, None), ("a", 0, 0), ("a", 20, 4), crew=own)
        self.tells((0, None), ("a", 0, 1), ("a", 20, 0), crew=own)

    def test_the_level_is_the_least_due_of_all_that_have_the_tool(self):
        crew = Crew((SLOW, Task("low", 1, 9, due=4, holds=(("t", 0, 1),)), Task("a", 1, 9, due=4), Task("b", 1, 9, due=3)))
        self.tells((0, 1), ("slow", 0, 1), ("a", 5, 0), crew=crew)
        self.tells((1, None), ("slow", 0, 1), ("b", 5, 0), crew=crew)
        # A tool that nobody else has is of the level of its own task.
        alone = Crew((SLOW, SAME))
        self.tells((1, None), ("slow", 0, 1), ("same", 5, 0), crew=alone)

    def test_by_the_lesser_level_of_several_tools(self):
        slow = Task("slow", 6, 90, holds=(("s", 0, 6), ("t", 2, 4)))
        crew = Crew((slow, USER, Task("a", 1, 90, due=30, holds=(("s", 0, 1),)), SAME, Task("b", 1, 90, due=30)))
        for done, name, told in (
            (1, "same", (1, None)), (2, "same", (1, None)), (3, "same", (0, 1)), (5, "same", (0, 1)),
            (1, "b", (0, 1)), (5, "b", (0, 1)), (0, "b", (1, None)),
        ):
            self.tells(told, ("slow", 0, done), (name, 5, 0), crew=crew)

    def test_as_the_plain_rule_tells(self):
        chance = random.Random(9)
        seen = {True: 0, False: 0}
        for time in range(4000):
            crew = some_crew(chance, most=5, costs=6)
            works = {}
            for many in range(chance.randint(0, 7)):
                member = chance.choice(crew.members)
                works[(member.name, chance.randint(0, 25))] = chance.randint(0, cost_of(member) - 1)
            rows = tuple([(*key, done) for key, done in works.items()])
            told = served(crew, rows)
            self.assertEqual(told, pick(crew, rows))
            if told is not None:
                seen[told[1] is None] += 1
        self.assertGreater(min(seen.values()), 100)


class Refused(Asking):
    def test_what_is_no_crew(self):
        for thing in NO_WHOLES + (0, HUGE, SLOW, CREW.members, str(CREW), Crew):
            for works in ((), (("fast", 0, 0),), [], None):
                with self.assertRaises(NoCrew) as caught:
                    served(thing, works)
                self.assertIsNone(caught.exception.name)

    def test_what_is_no_tuple(self):
        for thing in OTHER_KINDS + ("", "fast 0 0", 0, HUGE, [("fast", 0, 0)], {("fast", 0, 0): 1}, CREW):
            if not isinstance(thing, tuple):
                self.refuses(None, thing)

    def test_what_is_no_work(self):
        odd = OTHER_KINDS + (
            "fast", 0, HUGE, ("fast",), ("fast", 0), ("fast", 0, 0, 0), ["fast", 0, 0], (("fast", 0, 0),), FAST, CREW,
            (0, "fast", 0),
        )
        for thing in odd:
            self.refuses(0, (thing,))
            self.refuses(2, (("fast", 0, 0), ("same", 0, 0), thing))
            self.refuses(1, (("fast", 0, 0), thing, ("fast", 0, 0)))
        self.refuses(0, ("fast", 0, 0))

    def test_names(self):
        for name in NO_NAMES + ("t", "nobody", "fas", FAST):
            self.refuses(0, ((name, 0, 0),))
            self.refuses(1, (("fast", 0, 0), (name, 0, 0)))
        self.refuses(0, (("fast", 0, 0),), crew=Crew())

    def test_comings(self):
        for comes in NO_WHOLES + (-1, 10 ** 12 + 1, HUGE, -HUGE):
            self.refuses(0, (("fast", comes, 0),))
            self.refuses(1, (("fast", 0, 0), ("door", comes, 0)))

    def test_done(self):
        for done in NO_WHOLES + (-1, 2, 3, HUGE, -HUGE):
            self.refuses(0, (("fast", 0, done),))
            self.refuses(1, (("slow", 0, 4), ("door", 0, done)))
        self.refuses(0, (("slow", 0, 5),))

    def test_a_name_and_coming_twice(self):
        self.refuses(1, (("fast", 5, 0), ("fast", 5, 0)))
        self.refuses(1, (("fast", 5, 0), ("fast", 5, 1)))
        self.refuses(2, (("door", 5, 0), ("fast", 5, 0), ("door", 5, 1), ("fast", 5, 0)))
        self.refuses(3, (("door", 5, 0), ("fast", 5, 0), ("near", 5, 1), ("fast", 5, 0)))
        self.tells((0, None), ("fast", 5, 0), ("near", 5, 0), ("fast", 6, 0), ("door", 5, 0))

    def test_the_first_that_is_not_so_is_told(self):
        self.refuses(1, (("fast", 5, 0), ("fast", 5, 0), None))
        self.refuses(1, (("fast", 5, 0), None, ("fast", 5, 0)))
        self.refuses(0, (("fast", 5, 2), ("fast", 5, 0), ("fast", 5, 0)))

    def test_what_was_handed_in_stays(self):
        works = [("fast", 5, 0), ["near", 5, 0]]
        self.refuses(None, works)
        self.assertEqual(works, [("fast", 5, 0), ["near", 5, 0]])
        rows = (("slow", 0, 1), ("same", 5, 0))
        self.assertEqual([served(CREW, rows) for again in range(2)], [(0, 1), (0, 1)])
        self.assertEqual(rows, (("slow", 0, 1), ("same", 5, 0)))


if __name__ == "__main__":
    unittest.main()
