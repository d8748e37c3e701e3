"""The checker (point 23, and points 2 and 3 for it)."""

import ast
import fractions
import inspect
import pathlib
import random
import unittest

from duetimes import checker
from duetimes.checker import holds
from duetimes.comings import Comings
from duetimes.crews import Crew
from duetimes.demand import blocking, demand, lets_in
from duetimes.holding import held_up
from duetimes.members import Door, Task
from duetimes.runs import played
from duetimes.worst import worst
from plain import PlainRun, cost_of, due_of, some_crew, some_rows, turn
from things import HUGE, NO_NAMES, NO_WHOLES, OTHER_KINDS, Alike, Sore, deep

# Whatever stands in their place, these are none of it.
STRANGE = (b"in", [], [1], {}, {"in": 1}, set(), object(), object, len, range(3), Alike(), Sore(), deep(10), -1, HUGE, "A b")


def task(name, cost, gap, due=None, spans=()):
    return ("task", name, cost, gap, gap if due is None else due, spans)


def door(name, room, gap):
    return ("door", name, room, gap)


def rows_of(crew):
    """A crew as a claim has it."""
    return tuple([
        door(member.name, member.room, member.gap) if isinstance(member, Door)
        else task(member.name, member.cost, member.gap, member.due, member.holds)
        for member in crew.members
    ])


def crew_of(rows):
    return Crew(tuple([
        Door(*row[1:]) if row[0] == "door" else Task(*row[1:4], due=row[4], holds=row[5]) for row in rows
    ]))


def counted(crew, name, coming, end):
    """What counts for a coming of NAME as in 15 and comes ahead of END, its own ones all: work by work."""
    needed = 0
    for member in crew.members:
        moments = range(coming, -1, -member.gap) if member.name == name else range(0, end, member.gap)
        for moment in moments:
            if turn(crew, member.name, moment) <= turn(crew, name, coming):
                needed += cost_of(member)
    return needed


def ends_of(crew, name, long):
    """For each coming in a stretch of LONG the least point by which all is served that counts."""
    found = []
    for coming in range(long):
        end = coming + 1
        while counted(crew, name, coming, end) > end:
            end += 1
        found.append(end)
    return tuple(found)


def without_rest(crew):
    long = 1
    while sum([cost_of(member) * -(-long // member.gap) for member in crew.members]) > long:
        long += 1
    return long


def within_paper(crew, name):
    long = without_rest(crew)
    return (long, ends_of(crew, name, long))


def places(thing, path=()):
    """The paths to all parts of a thing, itself ahead."""
    found = [path]
    if isinstance(thing, tuple):
        for at, part in enumerate(thing):
            found += places(part, (*path, at))
    return found


def part_at(thing, path):
    for at in path:
        thing = thing[at]
    return thing


def put(thing, path, part):
    """A thing with another part at a path."""
    if not path:
        return part
    return (*thing[:path[0]], put(thing[path[0]], path[1:], part), *thing[path[0] + 1:])


SLOW = task("slow", 9, 60, 50, (("s", 0, 3), ("s", 3, 3), ("t", 2, 5)))
USER = task("user", 3, 20, 10, (("t", 0, 3),))
HOLDING = (SLOW, USER, door("d", 2, 20))
PLAIN = (task("a", 2, 5), task("b", 2, 6, 5), task("c", 1, 4, 3))
LATE = (task("a", 2, 4, 2), task("b", 2, 4, 3))
DOORS = (task("a", 1, 4), door("d", 2, 5))
FULL = (task("a", 2, 4, 2),)

# For each word a claim that is taken, with its paper.
TAKEN = (
    (("in", PLAIN), 60),
    (("in", HOLDING), 60),
    (("breaks", LATE), (("a", 0, 2), ("b", 0, 2))),
    (("breaks", (door("d", 2, 1),)), (("d", 0, 2),)),
    (("within", PLAIN, "b", 5), within_paper(crew_of(PLAIN), "b")),
    (("within", DOORS, "d", 4), within_paper(crew_of(DOORS), "d")),
    (("as long", PLAIN, "b", 5), worst(crew_of(PLAIN), "b")[1].rows),
    (("as long", HOLDING, "user", 7), (("slow", 0, 9), ("user", 3, 3))),
    (("held up", HOLDING, "user", 4), (("slow", 0, 9), ("user", 3, 3))),
    (("held up", HOLDING, "d", 1), (("slow", 1, 9), ("d", 7, 1))),
    (("greatest", FULL, 4, 4, 2), ("b", 4, (("a", 0, 2), ("b", 0, 3)))),
    (("greatest", FULL, 4, 2, 0), ("b", 4, (("a", 0, 2), ("b", 0, 1)))),
    (("greatest", (), 100, 99, 99), ("x", 100, None)),
    (("run", DOORS, (("a", 0, 1), ("d", 1, 2)), ((0, 1, "a", 0), (1, 3, "d", 0))), None),
    (("run", (), (), ()), None),
)


class Asking(unittest.TestCase):
    def takes(self, claim, paper):
        self.assertIs(holds(claim, paper), True, (claim, paper))

    def leaves(self, claim, paper):
        self.assertIs(holds(claim, paper), False)


class Interface(Asking):
    def test_the_function_stands_in_this_file(self):
        self.assertEqual(holds.__module__, "duetimes.checker")
        self.assertIs(checker.holds, holds)
        self.assertEqual(str(inspect.signature(holds)), "(claim, paper)")

    def test_by_place_and_by_name(self):
        claim, paper = TAKEN[0]
        self.assertIs(holds(paper=paper, claim=claim), True)
        self.assertIs(holds(claim, paper=None), False)

    def test_it_imports_stages_one_to_eight_alone(self):
        stages = ["members", "crews", "crewtexts", "comings", "comingtexts", "rule", "runs", "holding", "demand"]
        for name in ["checker", *stages]:
            path = pathlib.Path(checker.__file__).parent / f"{name}.py"
            if path.exists():
                for node in ast.walk(ast.parse(path.read_text())):
                    if isinstance(node, ast.ImportFrom):
                        allowed = stages if name == "checker" else [*stages, "errors"]
                        self.assertIn(node.module, [f"duetimes.{stage}" for stage in allowed])


class ThingsOfAnyKind(Asking):
    def test_taken(self):
        for claim, paper in TAKEN:
            self.takes(claim, paper)
            self.takes(claim, paper)

    def test_claims(self):
        for claim, paper in TAKEN:
            for thing in OTHER_KINDS + NO_NAMES + (0, 1, claim[0], list(claim), (claim,), {claim: paper}):
                self.leaves(thing, paper)
                self.leaves(thing, None)

    def test_papers(self):
        for claim, paper in TAKEN:
            for thing in NO_WHOLES + (0, -1, HUGE, (), (paper,), [paper], str(paper), claim):
                if not (thing is None and paper is None):
                    self.leaves(claim, thing)

    def test_other_words(self):
        for claim, paper in TAKEN:
            for word in OTHER_KINDS + ("", "In", "in ", " in", "IN", "out", "break", "as_long", "heldup", "a", 0, 1):
                self.leaves((word, *claim[1:]), paper)
        for claim, paper in TAKEN:
            for word in ("in", "breaks", "within", "as long", "held up", "greatest", "run"):
                if (word, claim[0]) not in ((claim[0], claim[0]), ("as long", "held up"), ("held up", "as long")):
                    self.leaves((word, *claim[1:]), paper)

    def test_more_and_fewer_parts(self):
        for claim, paper in TAKEN:
            self.leaves(claim[:-1], paper)
            self.leaves((*claim, paper), None)
            for thing in (None, 0, 1, (), "a", claim[-1]):
                self.leaves((*claim, thing), paper)
            for many in range(len(claim)):
                self.leaves(claim[:many], paper)

    def test_lists_for_tuples(self):
        for both in TAKEN:
            for path in places(both):
                part = part_at(both, path)
                if path and isinstance(part, tuple):
                    self.leaves(*put(both, path, list(part)))

    def test_truths_for_numbers(self):
        many = 0
        for both in TAKEN:
            for path in places(both):
                part = part_at(both, path)
                if part in (0, 1):
                    many += 1
                    self.leaves(*put(both, path, bool(part)))
        self.assertGreater(many, 30)

    def test_strange_things_in_every_place(self):
        for both in TAKEN:
            for path in places(both):
                if path:
                    for thing in STRANGE:
                        # A greater number of moments may be so of a claim of at most so many.
                        if not (both[0][0] == "within" and path == (0, 3) and isinstance(thing, int)):
                            self.leaves(*put(both, path, thing))

    def test_rows_with_more_and_fewer_parts(self):
        for both in TAKEN:
            for path in places(both):
                part = part_at(both, path)
                # Whole lists of rows, holds or ends apart, of which more or fewer may be so.
                if len(path) > 1 and isinstance(part, tuple) and part and not isinstance(part[0], tuple):
                    for other in (part[:-1], (*part, 1), (*part, None), ()):
                        self.leaves(*put(both, path, other))

    def test_nothing_is_changed(self):
        for claim, paper in TAKEN:
            before = repr((claim, paper))
            holds(claim, paper)
            self.assertEqual(repr((claim, paper)), before)
        listed = [("in", PLAIN), [60]]
        self.leaves(*listed)
        self.assertEqual(listed, [("in", PLAIN), [60]])


class Crews(Asking):
    def test_what_makes_no_crew(self):
        good = task("a", 2, 600, 500, (("t", 0, 2),))
        self.takes(("in", (good,)), 600)
        for row in (
            task("", 2, 600), task("A", 2, 600), task("abcdefghi", 2, 600), task("a", 0, 600), task("a", 100, 600),
            task("a", 2, 0), task("a", 2, 601), task("a", 2, 600, 0), task("a", 2, 600, 601),
            task("a", 2, 600, 500, (("t", 0, 3),)), task("a", 2, 600, 500, (("t", 1, 1), ("t", 0, 1))),
            task("a", 2, 600, 500, (("t", 0, 2), ("t", 1, 1))), task("a", 2, 600, 500, None),
            ("task", "a", 2, 600), ("task", "a", 2, 600, 500), ("task", "a", 2, 600, 500, (), ()),
            ("task", "a", 2, 600, None, ()), ("door", "a", 2, 600, 600, ()), ("door", "a", 2, 600, 600), ("door", "a", 2),
            ("Task", "a", 2, 600, 500, ()), ("", "a", 2, 600), ("a", 2, 600, 500), door("a", 0, 600), door("a", 100, 600),
            door("a", 1, 0), door("a", 1, 601), door("a1", 1, 600), door("a", 1, None), (),
        ):
            self.leaves(("in", (row,)), 600)
            self.leaves(("in", (task("z", 1, 600), row)), 600)

    def test_doors_and_tasks(self):
        self.takes(("in", (door("a", 99, 600),)), 600)
        self.takes(("in", (task("a", 99, 600, 99),)), 600)

    def test_names_twice(self):
        self.takes(("in", (task("a", 1, 9), door("b", 1, 9))), 9)
        self.leaves(("in", (task("a", 1, 9), door("a", 1, 9))), 9)

    def test_eight_and_nine(self):
        rows = tuple([task(name, 1, 9) for name in "abcdefghi"])
        self.takes(("in", rows[:8]), 9)
        self.leaves(("in", rows), 9)

    def test_nobody(self):
        for limit in (1, 600, 5000):
            self.takes(("in", ()), limit)
        self.leaves(("breaks", ()), ())
        self.leaves(("within", (), "a", 1), (1, (1,)))

    def test_members_themselves_are_no_rows(self):
        self.leaves(("in", (Task("a", 1, 9),)), 9)
        self.leaves(("in", Crew((Task("a", 1, 9),))), 9)
        self.leaves(("in", ("task a 1 9 9",)), 9)


class In(Asking):
    def test_limits(self):
        for rows in ((task("a", 1, 1),), (task("a", 1, 2),), ()):
            for limit in (1, 2, 4999, 5000):
                self.takes(("in", rows), limit)
            for limit in (0, -1, 5001, 6000, None, "1", True, 10 ** 6):
                self.leaves(("in", rows), limit)

    def test_load(self):
        # At each LONG up to LIMIT all is well, but more and more comes than can be served.
        rows = (task("a", 3, 4), task("b", 2, 6))
        for limit in range(1, 200):
            self.leaves(("in", rows), limit)
        self.leaves(("in", (task("a", 99, 98),)), 97)
        self.leaves(("in", (task("a", 99, 98),)), 98)

    def test_load_just_one(self):
        rows = (task("a", 2, 4, 2), task("b", 2, 4))
        self.takes(("in", rows), 4)
        self.takes(("in", rows), 8)
        # Neither divided by all GAPs, nor by the sum, by which 1 is over at each LIMIT.
        for limit in (3, 5, 6, 7, 9, 4999):
            self.leaves(("in", rows), limit)

    def test_both_ways(self):
        rows = (task("a", 1, 7, 3), task("b", 2, 9, 5))
        # The sum is (LIMIT + 5) / 7 and 2 * (LIMIT + 5) / 9, so from LIMIT 4 on it is at most LIMIT + 1.
        for limit in (4, 5, 6, 62, 63, 64, 5000):
            self.takes(("in", rows), limit)
        for limit in (1, 2, 3):
            self.leaves(("in", rows), limit)
        # By division alone, as the sum is always over.
        rows = (task("a", 3, 6, 3), task("b", 3, 6))
        for limit in range(1, 50):
            self.assertIs(holds(("in", rows), limit), limit % 6 == 0)

    def test_the_sum_at_its_bound(self):
        # 6 * (LIMIT + 1 + 4) / 10 is just LIMIT + 1 at LIMIT 5.
        rows = (task("a", 6, 10, 6),)
        self.takes(("in", rows), 5)
        self.takes(("in", rows), 6)
        rows = (task("a", 3, 6, 3), task("b", 1, 4, 4))
        for limit in range(1, 60):
            point = limit + 1
            top = fractions.Fraction(3 * (point + 3), 6) + fractions.Fraction(point, 4)
            self.assertIs(holds(("in", rows), limit), point >= 4 and (limit % 12 == 0 or top <= point))

    def test_a_due_above_the_limit(self):
        rows = (task("a", 1, 10),)
        for limit in (1, 5, 8):
            self.leaves(("in", rows), limit)
        for limit in (9, 10, 11):
            self.takes(("in", rows), limit)
        rows = (door("a", 1, 10),)
        self.leaves(("in", rows), 8)
        self.takes(("in", rows), 9)

    def test_a_stretch_that_is_too_short_by_demand(self):
        for rows, limit in ((LATE, 4), ((task("a", 2, 600, 1),), 600), ((task("a", 5, 600, 100), task("b", 96, 600, 100)), 600)):
            self.leaves(("in", rows), limit)
        self.takes(("in", (task("a", 4, 600, 100), task("b", 96, 600, 100))), 600)

    def test_a_stretch_that_is_too_short_by_blocking(self):
        for cost in (5, 6, 7):
            rows = (SLOW, task("user", cost, 20, 10, (("t", 0, 3),)))
            self.assertIs(holds(("in", rows), 60), cost < 7)

    def test_just_as_told(self):
        chance = random.Random(51)
        seen = {True: 0, False: 0}
        for time in range(400):
            crew = some_crew(chance, most=4, costs=chance.choice((2, 4)), holds=chance.choice((0, 1)))
            limit = chance.choice((crew.stretch(), 2 * crew.stretch(), chance.randint(1, 60)))
            load = sum([fractions.Fraction(cost_of(member), member.gap) for member in crew.members])
            total = sum([
                fractions.Fraction(cost_of(member) * (limit + 1 + member.gap - due_of(member)), member.gap)
                for member in crew.members
            ])
            told = (
                load <= 1
                and all([demand(crew, long) + blocking(crew, long)[0] <= long for long in range(1, limit + 1)])
                and max([due_of(member) for member in crew.members]) <= limit + 1
                and (total <= limit + 1 or all([limit % member.gap == 0 for member in crew.members]))
            )
            self.assertIs(holds(("in", rows_of(crew)), limit), told)
            seen[told] += 1
            if told:
                self.assertEqual(lets_in(crew), ("in",))
            self.assertIs(holds(("in", rows_of(crew)), crew.stretch()), lets_in(crew) == ("in",))
        self.assertGreater(min(seen.values()), 50)


class BreaksClaims(Asking):
    def test_rows(self):
        claim = ("breaks", LATE)
        self.takes(claim, (("a", 0, 2), ("b", 0, 2)))
        self.takes(claim, (("b", 0, 2), ("a", 0, 2)))
        self.takes(claim, (("b", 10 ** 9, 2), ("a", 10 ** 9, 2)))
        self.takes(claim, (("a", 9, 1), ("b", 0, 2), ("a", 0, 2), ("b", 4, 1)))
        for rows in (
            (), (("a", 0, 2),), (("a", 0, 2), ("b", 0, 1)), (("a", 0, 2), ("b", 1, 2)), (("a", 0, 1), ("b", 0, 2)),
        ):
            self.leaves(claim, rows)

    def test_rows_that_make_no_comings(self):
        claim = ("breaks", LATE)
        good = (("a", 0, 2), ("b", 0, 2))
        for row in (
            ("a", 3, 1), ("c", 9, 1), ("a", 9, 3), ("a", 9, 0), ("a", 9, None), ("a", -1, 1), ("a", 10 ** 9 + 1, 1),
            ("a", 9), ("a", 9, 1, 1), (), None, "a 9 1", ["a", 9, 1], ("a", True, 1), ("a", 9, True),
        ):
            self.leaves(claim, (*good, row))
            self.leaves(claim, (row, *good))
        self.leaves(claim, (("a", 0, None), ("b", 0, None)))
        self.leaves(claim, (("a", 0, 2), ("b", 0, None)))

    def test_how_many_rows(self):
        claim = ("breaks", (door("d", 1, 1), task("a", 1, 600, 1)))
        rows = (("a", 0, 1), ("d", 0, 1)) + tuple([("d", 5, 1)] * 998)
        self.takes(claim, rows)
        self.leaves(claim, (*rows, ("d", 5, 1)))

    def test_papers_of_lets_in_are_taken_and_no_crew_let_in_breaks(self):
        chance = random.Random(52)
        seen = {}
        for time in range(300):
            crew = some_crew(chance, most=4, costs=chance.choice((2, 4)), holds=chance.choice((0, 1)))
            told = lets_in(crew)
            seen[told[0]] = seen.get(told[0], 0) + 1
            if told[0] == "breaks":
                self.takes(("breaks", rows_of(crew)), told[2].rows)
                self.takes(("breaks", rows_of(crew)), told[2].rows[::-1])
            rows = Comings(crew, some_rows(chance, crew)).rows
            self.assertIs(holds(("breaks", rows_of(crew)), rows), PlainRun(crew, rows).late() != ())
            if told[0] == "in":
                self.leaves(("breaks", rows_of(crew)), rows)
        self.assertGreater(min(seen.values()), 50)


class Within(Asking):
    CREW = crew_of(PLAIN)

    def test_just_as_long_as_the_worst(self):
        for name in "abc":
            paper = within_paper(self.CREW, name)
            moments = worst(self.CREW, name)[0]
            for many in (moments, moments + 1, 600, 10 ** 20):
                self.takes(("within", PLAIN, name, many), paper)
            for many in (moments - 1, 1, 0, -1, None, "5", True):
                self.leaves(("within", PLAIN, name, many), paper)

    def test_name(self):
        paper = within_paper(self.CREW, "b")
        for name in NO_NAMES + ("d", "t", None, ("b",)):
            self.leaves(("within", PLAIN, name, 600), paper)

    def test_no_holds(self):
        rows = (*PLAIN[:2], task("c", 1, 4, 3, (("t", 0, 1),)))
        self.leaves(("within", rows, "b", 5), within_paper(self.CREW, "b"))
        self.takes(("within", (*PLAIN[:2], task("c", 1, 4, 3, ())), "b", 5), within_paper(self.CREW, "b"))

    def test_long(self):
        long, ends = within_paper(self.CREW, "b")
        for other in range(1, long):
            self.leaves(("within", PLAIN, "b", 600), (other, ends[:other]))
        self.leaves(("within", PLAIN, "b", 600), (0, ()))
        # Of one task alone in stretches of any kind.
        rows = (task("a", 1, 1),)
        self.takes(("within", rows, "a", 1), (5000, tuple(range(1, 5001))))
        self.leaves(("within", rows, "a", 1), (5001, tuple(range(1, 5002))))
        self.takes(("within", rows, "a", 1), (1, (1,)))
        self.leaves(("within", rows, "a", 1), (True, (1,)))
        self.leaves(("within", rows, "a", 1), (-1, ()))
        self.leaves(("within", rows, "a", 1), (0, ()))

    def test_long_longer_than_needed(self):
        # 2 of 7, 2 of 9 and so on: any LONG that holds what fits into it, rounded up.
        rows = (task("a", 2, 7), task("b", 3, 9))
        crew = crew_of(rows)
        for long in range(1, 80):
            needed = 2 * -(-long // 7) + 3 * -(-long // 9)
            self.assertIs(holds(("within", rows, "a", 50), (long, ends_of(crew, "a", long))), needed <= long)

    def test_how_many_ends(self):
        long, ends = within_paper(self.CREW, "b")
        claim = ("within", PLAIN, "b", 5)
        self.takes(claim, (long, ends))
        self.leaves(claim, (long, ends[:-1]))
        self.leaves(claim, (long, (*ends, ends[-1] + 1)))
        self.leaves(claim, (long, ()))

    def test_each_end(self):
        long, ends = within_paper(self.CREW, "b")
        moments = worst(self.CREW, "b")[0] + 3
        claim = ("within", PLAIN, "b", moments)
        for coming in range(long):
            for end in range(-2, coming + moments + 3):
                told = coming < end <= coming + moments and counted(self.CREW, "b", coming, end) <= end
                paper = (long, (*ends[:coming], end, *ends[coming + 1:]))
                self.assertIs(holds(claim, paper), told)
            for end in (None, True, str(ends[coming]), (ends[coming],), HUGE, -HUGE):
                self.leaves(claim, (long, (*ends[:coming], end, *ends[coming + 1:])))

    def test_ends_above_the_least(self):
        # A point at which more counts may be too early though one ahead of it isn't.
        rows = (task("a", 3, 5, 1), task("b", 2, 9))
        crew = crew_of(rows)
        long, ends = within_paper(crew, "b")
        for end in range(ends[0], ends[0] + 8):
            told = counted(crew, "b", 0, end) <= end
            self.assertIs(holds(("within", rows, "b", 60), (long, (end, *ends[1:]))), told)

    def test_more_and_fewer_parts(self):
        long, ends = within_paper(self.CREW, "b")
        claim = ("within", PLAIN, "b", 5)
        for paper in ((long,), (long, ends, None), (ends, long), ends, (), None, [long, ends], (long, list(ends)), long):
            self.leaves(claim, paper)

    def test_against_the_worst(self):
        chance = random.Random(53)
        for time in range(150):
            crew = some_crew(chance, most=4, holds=0, costs=chance.choice((2, 4)))
            top, bottom = crew.load()
            if top > bottom or (any([isinstance(member, Door) for member in crew.members]) and len(lets_in(crew)) > 1):
                continue
            for name in crew.names():
                moments = worst(crew, name)[0]
                paper = within_paper(crew, name)
                self.takes(("within", rows_of(crew), name, moments), paper)
                self.leaves(("within", rows_of(crew), name, moments - 1), paper)
                cut = tuple([min(end, coming + moments - 1) for coming, end in enumerate(paper[1])])
                self.leaves(("within", rows_of(crew), name, moments - 1), (paper[0], cut))


class AsLong(Asking):
    def test_just_as_long_and_longer(self):
        for rows in (PLAIN, DOORS):
            crew = crew_of(rows)
            for name in crew.names():
                moments, made = worst(crew, name)
                for many in range(1, moments + 1):
                    self.takes(("as long", rows, name, many), made.rows)
                for many in (moments + 1, 600, HUGE, 0, -1, None, True, "1"):
                    self.leaves(("as long", rows, name, many), made.rows)

    def test_name(self):
        rows = (("a", 0, 2), ("b", 0, 2), ("c", 0, 1))
        for name, moments in (("a", 3), ("b", 5), ("c", 1)):
            self.takes(("as long", PLAIN, name, moments), rows)
            self.leaves(("as long", PLAIN, name, moments + 1), rows)
        for name in NO_NAMES + ("d", ("a",)):
            self.leaves(("as long", PLAIN, name, 1), rows)
        self.leaves(("as long", PLAIN, "a", 1), (("b", 0, 2),))
        self.leaves(("as long", PLAIN, "a", 1), ())

    def test_any_of_its_works(self):
        rows = (("a", 0, 1), ("a", 9, 1), ("c", 9, 1), ("a", 20, 1))
        self.takes(("as long", PLAIN, "a", 2), rows)
        self.leaves(("as long", PLAIN, "a", 3), rows)

    def test_a_portion_not_a_comer(self):
        rows = (("d", 0, 7),)
        self.takes(("as long", DOORS, "d", 2), rows)
        self.leaves(("as long", DOORS, "d", 3), rows)

    def test_with_holds(self):
        rows = (("slow", 0, 9), ("user", 3, 3))
        self.takes(("as long", HOLDING, "user", 7), rows)
        self.leaves(("as long", HOLDING, "user", 8), rows)

    def test_rows_that_make_no_comings(self):
        for row in (("a", 1, 1), ("a", 9, None), ("z", 9, 1), ("a", 9, 3), ["a", 9, 1], ("a", 9)):
            self.leaves(("as long", PLAIN, "a", 1), (("a", 0, 2), row))


class HeldUpClaims(Asking):
    ROWS = (("slow", 0, 9), ("user", 3, 3))

    def test_as_long_or_longer(self):
        for many in (1, 2, 3, 4):
            self.takes(("held up", HOLDING, "user", many), self.ROWS)
        for many in (5, 6, HUGE, 0, -1, None, True, "4"):
            self.leaves(("held up", HOLDING, "user", many), self.ROWS)

    def test_waiting_is_not_held_up(self):
        self.leaves(("held up", PLAIN, "b", 1), (("a", 0, 2), ("b", 0, 2), ("c", 0, 1)))
        self.leaves(("held up", HOLDING, "slow", 1), self.ROWS)

    def test_name(self):
        for name in NO_NAMES + ("t", "s", "d", "slow", "nobody", ("user",)):
            self.leaves(("held up", HOLDING, name, 1), self.ROWS)

    def test_any_of_its_works(self):
        rows = (("user", 0, 3), ("slow", 20, 9), ("user", 24, 1), ("user", 60, 1))
        self.takes(("held up", HOLDING, "user", 3), rows)
        self.leaves(("held up", HOLDING, "user", 4), rows)

    def test_rows_that_make_no_comings(self):
        for row in (("user", 9, 1), ("user", 90, None), ("z", 90, 1), ("user", 90, 4), ["user", 90, 1], ("user", 90)):
            self.leaves(("held up", HOLDING, "user", 1), (*self.ROWS, row))

    def test_just_as_runs_tell(self):
        chance = random.Random(54)
        many = 0
        for time in range(200):
            crew = some_crew(chance, most=4, costs=5, doors=0.2, holds=1, gaps=(10, 12, 15, 20))
            crew = crew.with_member(Task("slow", 19, 60, due=chance.randint(30, 60), holds=(("t", 0, 9), ("u", 5, 9))))
            made = Comings(crew, some_rows(chance, crew, slack=1, spread=30))
            for name in crew.names():
                found = [row[4] for row in held_up(played(made)) if row[0] == name]
                for moments in (1, 2, 5):
                    told = any([moment >= moments for moment in found])
                    self.assertIs(holds(("held up", rows_of(crew), name, moments), made.rows), told)
                    many += told
        self.assertGreater(many, 20)


class Greatest(Asking):
    def test_cost_between(self):
        rows = (("a", 0, 2), ("b", 0, 3))
        self.takes(("greatest", FULL, 4, 4, 2), ("b", 4, rows))
        # Not let in with 3, not late with 2.
        self.leaves(("greatest", FULL, 4, 4, 3), ("b", 4, (("a", 0, 2), ("b", 0, 4))))
        self.leaves(("greatest", FULL, 4, 4, 1), ("b", 4, (("a", 0, 2), ("b", 0, 2))))
        self.leaves(("greatest", FULL, 4, 4, 2), ("b", 4, (("a", 0, 2), ("b", 0, 2))))
        self.leaves(("greatest", FULL, 4, 4, 2), ("b", 4, None))
        self.leaves(("greatest", FULL, 4, 4, 2), ("b", 4, ()))
        self.leaves(("greatest", FULL, 4, 4, 2), ("b", 4, (("a", 0, 2), ("b", 0, None))))
        self.leaves(("greatest", FULL, 4, 4, 2), ("b", 4, (("a", 0, 2), ("b", 0, 4))))

    def test_cost_0(self):
        rows = (("a", 0, 2), ("b", 0, 1))
        self.takes(("greatest", FULL, 4, 2, 0), ("b", 4, rows))
        self.takes(("greatest", FULL, 600, 1, 0), ("b", 4, (("a", 0, 2), ("b", 1, 1))))
        self.leaves(("greatest", FULL, 4, 2, 0), ("b", 4, None))
        self.leaves(("greatest", FULL, 4, 2, -1), ("b", 4, rows))
        # LIMIT is of the crew alone: 2 * (LIMIT + 3) / 4 is at most LIMIT + 1 from 1 on.
        for limit in (1, 2, 3, 5, 5000):
            self.takes(("greatest", FULL, 4, 2, 0), ("b", limit, rows))
        # The crew itself must be let in.
        self.leaves(("greatest", LATE, 4, 4, 0), ("c", 4, (("a", 0, 2), ("b", 0, 2), ("c", 0, 1))))

    def test_cost_99(self):
        self.takes(("greatest", (), 100, 99, 99), ("x", 100, None))
        self.takes(("greatest", FULL, 600, 600, 99), ("x", 600, None))
        for rows in ((), (("x", 0, 99),), (("x", 0, 100),), 0, False):
            self.leaves(("greatest", (), 100, 99, 99), ("x", 100, rows))
        self.leaves(("greatest", (), 100, 98, 99), ("x", 100, None))
        self.takes(("greatest", (), 100, 98, 98), ("x", 100, (("x", 0, 99),)))
        self.leaves(("greatest", (), 600, 600, 100), ("x", 600, None))

    def test_gap_and_due(self):
        paper = ("x", 100, None)
        for gap, due in ((601, 600), (0, 0), (100, 101), (100, 0), (100, None), (None, None), ("100", 99), (100, True)):
            self.leaves(("greatest", (), gap, due, 99), paper)
        self.takes(("greatest", (), 1, 1, 1), ("x", 1, (("x", 0, 2),)))
        self.leaves(("greatest", (), 1, True, 1), ("x", 1, (("x", 0, 2),)))
        self.leaves(("greatest", (), True, 1, 1), ("x", 1, (("x", 0, 2),)))

    def test_how_many_members(self):
        many = tuple([task(name, 1, 600) for name in "abcdefgh"])
        self.takes(("greatest", many[:7], 600, 600, 99), ("x", 600, None))
        self.leaves(("greatest", many, 600, 600, 99), ("x", 600, None))
        full = tuple([task(name, 1, 8, 7) for name in "abcdefgh"])
        rows = tuple([(name, 0, 1) for name in "abcdefg"])
        self.takes(("greatest", full[:7], 8, 7, 0), ("x", 8, (*rows, ("x", 0, 1))))
        self.leaves(("greatest", full, 8, 7, 0), ("x", 8, (*rows, ("h", 0, 1), ("x", 0, 1))))

    def test_name(self):
        rows = (("a", 0, 2), ("b", 0, 3))
        for name in NO_NAMES + ("a",):
            self.leaves(("greatest", FULL, 4, 4, 2), (name, 4, rows))
            self.leaves(("greatest", FULL, 600, 600, 99), (name, 600, None))
            self.leaves(("greatest", FULL, 4, 2, 0), (name, 4, (("a", 0, 2), ("b", 0, 1))))
        self.takes(("greatest", FULL, 4, 4, 2), ("zz", 4, (("a", 0, 2), ("zz", 0, 3))))
        self.leaves(("greatest", FULL, 4, 4, 2), ("zz", 4, rows))

    def test_limit(self):
        rows = (("a", 0, 2), ("b", 0, 3))
        self.takes(("greatest", FULL, 4, 4, 2), ("b", 8, rows))
        for limit in (0, 1, 3, 5, 5001, None, True, "4"):
            self.leaves(("greatest", FULL, 4, 4, 2), ("b", limit, rows))

    def test_it_stands_behind_the_crew(self):
        # Where dues are alike the crew's own members go ahead, so the one more is late.
        rows = (task("z", 1, 9, 1),)
        self.takes(("greatest", rows, 9, 1, 0), ("b", 9, (("z", 0, 1), ("b", 0, 1))))

    def test_more_and_fewer_parts(self):
        rows = (("a", 0, 2), ("b", 0, 3))
        for paper in (("b", 4), ("b", 4, rows, None), (4, "b", rows), ["b", 4, rows], None, (), "b", 4, rows):
            self.leaves(("greatest", FULL, 4, 4, 2), paper)

    def test_just_the_greatest(self):
        chance = random.Random(55)
        many = 0
        for time in range(60):
            crew = some_crew(chance, most=3, costs=2, holds=chance.choice((0, 1)))
            if lets_in(crew)[0] == "breaks":
                continue
            gap = chance.choice((4, 5, 6, 10))
            due = chance.randint(1, gap)
            told = {cost: lets_in(crew.with_member(Task("x", cost, gap, due=due))) for cost in range(1, 12)}
            for cost in range(11):
                papers = told[cost + 1][2].rows if told[cost + 1][0] == "breaks" else ()
                limit = crew.with_member(Task("x", 1, gap, due=due)).stretch()
                right = (cost == 0 or told[cost][0] == "in") and told[cost + 1][0] == "breaks"
                self.assertIs(holds(("greatest", rows_of(crew), gap, due, cost), ("x", limit, papers)), right)
                many += right
        self.assertGreater(many, 20)


class RunClaims(Asking):
    def test_pieces(self):
        rows = (("d", 1, 2), ("a", 0, 1), ("d", 1, 1), ("a", 4, 1))
        pieces = ((0, 1, "a", 0), (1, 3, "d", 0), (4, 5, "a", 1), (6, 7, "d", 1))
        self.takes(("run", DOORS, rows, pieces), None)
        for other in (
            (), pieces[:-1], pieces[1:], pieces[::-1], (*pieces, (7, 8, "a", 2)), (*pieces, ()),
            ((0, 1, "a", 0), (1, 2, "d", 0), (2, 3, "d", 0), *pieces[2:]), ((0, 1, "a", 1), *pieces[1:]),
            ((0, 1, "d", 0), *pieces[1:]), ((0, 2, "a", 0), *pieces[1:]), list(pieces), tuple([list(row) for row in pieces]),
            ((False, 1, "a", 0), *pieces[1:]), ((0, True, "a", 0), *pieces[1:]), ((0, 1, "a", False), *pieces[1:]),
            ((0, 1, b"a", 0), *pieces[1:]), ((0, 1, "a"), *pieces[1:]), ((0, 1, "a", 0, 0), *pieces[1:]),
            (Alike(), *pieces[1:]), ((0, 1, Alike(), 0), *pieces[1:]), ((0, 1, "a", Alike()), *pieces[1:]), Alike(), Sore(),
        ):
            self.leaves(("run", DOORS, rows, other), None)

    def test_paper(self):
        claim = ("run", DOORS, (("a", 0, 1),), ((0, 1, "a", 0),))
        self.takes(claim, None)
        for paper in NO_WHOLES + (0, 1, claim[3], claim[2]):
            if paper is not None:
                self.leaves(claim, paper)

    def test_rows_that_make_no_comings(self):
        pieces = ((0, 1, "a", 0),)
        for rows in (
            (("a", 0, None),), (("a", 0, 2),), (("z", 0, 1),), [("a", 0, 1)], (["a", 0, 1],), None, (("a", 0, 1), ("a", 3, 1)),
        ):
            self.leaves(("run", DOORS, rows, pieces), None)

    def test_no_works(self):
        self.takes(("run", DOORS, (), ()), None)
        self.leaves(("run", DOORS, (), ((0, 1, "a", 0),)), None)
        self.leaves(("run", (("task",),), (), ()), None)

    def test_runs_of_any_crews(self):
        chance = random.Random(56)
        for time in range(100):
            crew = some_crew(chance)
            rows = Comings(crew, some_rows(chance, crew)).rows
            pieces = PlainRun(crew, rows).pieces()
            self.takes(("run", rows_of(crew), rows, pieces), None)
            self.leaves(("run", rows_of(crew), rows, pieces[:-1]), None)


if __name__ == "__main__":
    unittest.main()
