"""The whole program: point 3, and the interface."""

import importlib
import inspect
import pathlib
import random
import unittest

from duetimes.checker import holds
from duetimes.comings import Comings
from duetimes.comingtexts import read_comings
from duetimes.crews import LIMIT, Crew
from duetimes.crewtexts import read_crew
from duetimes.demand import lets_in
from duetimes.desk import Desk
from duetimes.errors import FullError, LostError, TimeError
from duetimes.gates import Gate
from duetimes.greatest import greatest_cost
from duetimes.holding import held_up, holders, most_held_up
from duetimes.logs import kept, read_log
from duetimes.members import Door, Task
from duetimes.papers import paper_as_long, paper_greatest, paper_held_up, paper_in, paper_run, paper_within
from duetimes.rooms import most_served
from duetimes.runs import played
from duetimes.worst import worst
from plain import PlainRun, due_of, plain_least, plain_stretch, some_crew, some_holds, some_rows

PACKAGE = pathlib.Path(__file__).resolve().parent.parent / "duetimes"
REFUSALS = (TimeError, LostError, FullError)

INTERFACE = {
    "errors": (
        "TimeError NoTask NoDoor NoCrew NoNumber NoText NoComings NoWorks NoDeeds NoRun NoPlain NoMember NoRow LostError"
        " NoName NoTool FullError TooMany TooMuch TooSoon Standing Busy Breaks"
    ),
    "members": "Task Door", "crews": "Crew", "crewtexts": "read_crew", "comings": "Comings",
    "comingtexts": "read_comings", "rule": "served", "runs": "played Run", "holding": "holders held_up most_held_up",
    "demand": "demand blocking lets_in", "worst": "worst", "rooms": "most_served", "greatest": "greatest_cost least_due",
    "gates": "Gate", "logs": "read_log kept", "checker": "holds", "desk": "Desk",
    "papers": "paper_in paper_within paper_as_long paper_held_up paper_greatest paper_run",
}

TEXT = """task saw 3 12 10
task drill 2 20 9 oil 0 2
door shop 4 20
task press 6 60 50 oil 1 4"""

COMINGS = """# what comes on a day
every saw 0 5
  press 0
drill 2 1

shop 7
shop 7 9
"""


class Interface(unittest.TestCase):
    def test_each_name_stands_in_its_file(self):
        for file, names in INTERFACE.items():
            module = importlib.import_module(f"duetimes.{file}")
            for name in names.split():
                found = getattr(module, name)
                self.assertEqual((found.__module__, found.__name__), (f"duetimes.{file}", name))
                self.assertTrue(inspect.isclass(found) or inspect.isfunction(found))
        self.assertEqual((LIMIT, LIMIT.__class__), (600, int))

    def test_the_package_is_one_folder_with_an_init(self):
        self.assertTrue((PACKAGE / "__init__.py").is_file())
        for file in INTERFACE:
            self.assertTrue((PACKAGE / f"{file}.py").is_file())

    def test_values_are_set_on_each_object(self):
        crew = Crew((Task("a", 1, 5),))
        made = Comings(crew)
        for thing, names in (
            (Task("a", 1, 5), "name cost gap due holds"), (Door("a", 1, 5), "name room gap"), (crew, "members"),
            (made, "crew rows"), (played(made), "comings last pieces works comers"), (Gate(), "doing tries"),
        ):
            for name in names.split():
                self.assertIn(name, vars(thing))

    def test_no_clock_no_chance_no_files(self):
        for path in PACKAGE.glob("*.py"):
            for row in path.read_text().split("\n"):
                if "import" in row.split():
                    self.assertTrue(row.startswith("from duetimes."), (path.name, row))


class Texts(unittest.TestCase):
    def test_read_and_played(self):
        crew = read_crew(TEXT)
        self.assertEqual(str(crew), TEXT)
        self.assertEqual(lets_in(crew), ("in",))
        made = read_comings(crew, COMINGS)
        self.assertEqual(len(made), 9)
        run = played(made)
        self.assertEqual(run.late(), ())
        plain = PlainRun(crew, made.rows)
        self.assertEqual((run.pieces, run.last), (plain.pieces(), plain.last))
        self.assertEqual(read_comings(crew, str(made)), made)

    def test_any_texts(self):
        source = random.Random(3)
        for time in range(100):
            crew = some_crew(source)
            made = Comings(crew, some_rows(source, crew))
            again = read_comings(read_crew(str(crew)), str(made))
            self.assertEqual(again, made)
            self.assertEqual(played(again), played(made))


class Crews(unittest.TestCase):
    """What is promised of crews that are let in, and of every other one."""

    def crew(self, source):
        crew = some_crew(source, most=4, costs=4, gaps=(5, 8, 10, 20, 40), holds=0.5)
        slow = Task("slow", 9, 40, due=source.randint(20, 40), holds=some_holds(source, 9))
        return crew.with_member(slow) if source.random() < 0.5 else crew

    def check_run(self, crew, rows):
        run = played(Comings(crew, rows))
        self.assertEqual(run.late(), ())
        for point in range(0, run.last + 1, 3):
            tools = [row[0] for row in holders(run, point)]
            self.assertEqual(len(tools), len(set(tools)))
        up = held_up(run)
        self.assertEqual(len({row[:2] for row in up}), len(up))
        for name, number, by, other, moments in up:
            self.assertLessEqual(moments, most_held_up(crew, name))
        for door in crew.members:
            if isinstance(door, Door):
                served = [(start, end) for start, end, name, number in run.pieces if name == door.name]
                for first, (start, to) in enumerate(served):
                    inside = 0
                    for begin, end in served[first:]:
                        inside += end - begin
                        self.assertLessEqual(inside, most_served(door, end - start))

    def check_longest(self, crew, rows):
        run = played(Comings(crew, rows))
        for name, number, comes, due, begins, ends in run.works:
            self.assertLessEqual(ends - comes, worst(crew, name)[0])
            self.assertLessEqual(worst(crew, name)[0], due_of(crew.named(name)))

    def test_let_in_or_broken(self):
        source = random.Random(33)
        words = []
        for time in range(250):
            crew = self.crew(source)
            told = lets_in(crew)
            words.append(told[0])
            self.assertEqual(told[0] == "in", plain_least(crew, plain_stretch(crew)) is None)
            if told[0] == "breaks":
                self.assertTrue(played(told[2]).late())
                continue
            plain = all(isinstance(member, Door) or member.holds == () for member in crew.members)
            for spread in (0, 9, 30):
                rows = some_rows(source, crew, slack=source.choice((0, 0.5)), spread=spread)
                self.check_run(crew, rows)
                if plain:
                    self.check_longest(crew, rows)
        self.assertGreater(min(words.count("in"), words.count("breaks")), 50)

    def test_just_where_none_takes_longer_than_its_due(self):
        source = random.Random(34)
        words = []
        for time in range(250):
            crew = some_crew(source, doors=0, holds=0, costs=4)
            top, bottom = crew.load()
            if top <= bottom:
                kept_all = all(worst(crew, member.name)[0] <= member.due for member in crew.members)
                words.append(kept_all)
                self.assertEqual(kept_all, lets_in(crew) == ("in",))
        self.assertGreater(min(words.count(True), words.count(False)), 10)

    def test_papers(self):
        source = random.Random(35)
        many = 0
        for time in range(100):
            crew = self.crew(source)
            made = Comings(crew, some_rows(source, crew, slack=1, spread=20))
            told = [paper_in(crew), paper_run(made)]
            told += [paper_held_up(made, name) for name in crew.names()]
            if lets_in(crew)[0] == "in":
                gap = source.choice((4, 10, 20))
                told.append(paper_greatest(crew, gap, due=source.choice((None, source.randint(1, gap)))))
                if all(isinstance(member, Door) or member.holds == () for member in crew.members):
                    told += [paper_within(crew, name) for name in crew.names()]
                    told += [paper_as_long(crew, name) for name in crew.names()]
            for paper in told:
                if paper is not None:
                    many += 1
                    self.assertIs(holds(*paper), True)
        self.assertGreater(many, 300)


class AtAGate(unittest.TestCase):
    """Whatever is let in, leaves and comes: crews that are as full as may be, and all comes as soon as it may."""

    def let(self, source, gate, name, gaps):
        gap = source.choice(gaps)
        due = source.randint(1, gap)
        try:
            cost = greatest_cost(gate.crew_in(), gap, due=due) + source.choice((-1, 0, 0, 1))
        except REFUSALS:
            cost = 2
        cost = min(max(cost, 1), 99)
        held = some_holds(source, cost, "tu") if source.random() < 0.5 else ()
        member = Door(name, cost, gap) if source.random() < 0.3 else Task(name, cost, gap, due=due, holds=held)
        return self.ask(gate.let_in, member)

    def ask(self, deed, *row, **more):
        try:
            return deed(*row, **more)
        except REFUSALS:
            return None

    def come(self, source, gate, told):
        for name in gate.who()[0]:
            if source.random() < 0.8:
                need = source.choice((None, None, 1, source.randint(1, 9)))
                by = self.ask(gate.by_when, name, 9 if need is None else need)
                if by is not None and need is None:
                    need = 9
                number = self.ask(gate.come, name, need=need)
                if by is not None and number is not None:
                    told[(name, number)] = by

    def comers_ended(self, gate):
        """When each comer was ended, by the log alone."""
        ends = {}
        waiting = {}
        entered = {}
        for row in read_log(gate.log()):
            if row[1] == "let" and isinstance(row[2], Door):
                waiting[row[2].name] = []
            elif row[1] == "let":
                waiting.pop(row[2].name, None)
            elif row[1] == "come" and row[2] in waiting:
                number = entered.get(row[2], 0)
                entered[row[2]] = number + 1
                waiting[row[2]].append([number, row[3]])
            elif row[1] == "serve" and row[2] in waiting:
                for point in range(row[0], row[4]):
                    first = waiting[row[2]][0]
                    first[1] -= 1
                    if first[1] == 0:
                        ends[(row[2], first[0])] = point + 1
                        waiting[row[2]].pop(0)
        return ends

    def test_no_work_is_late_and_each_comer_is_ended_by_the_point_told(self):
        soon = many = comers = 0
        for seed in range(120):
            source = random.Random(seed)
            gaps = source.choice(((6, 10, 15, 30), (5, 10, 20), (8, 12, 24), (4, 6, 12)))
            gate = Gate()
            told = {}
            for time in range(60):
                roll = source.random()
                if roll < 0.25:
                    soon += self.let(source, gate, source.choice("abcdefgh"), gaps) == "soon"
                elif roll < 0.35:
                    self.ask(gate.leave, source.choice("abcdefgh"))
                else:
                    self.come(source, gate, told)
                    gate.go(source.choice((0, 1, 1, 2, 3, 5)))
            gate.go(10 ** 6)
            self.assertEqual(gate.waiting_works(), ())
            for name, number, comes, due, ends in gate.ended():
                self.assertLessEqual(ends, due)
                many += 1
            # A name that was a task's may be a door's later: only doors' comers are told.
            ends = self.comers_ended(gate)
            for key, by in told.items():
                self.assertLessEqual(ends[key], by)
                comers += 1
            self.assertIsNone(kept(read_log(gate.log())))
            self.assertTrue(holds(*paper_in(gate.crew_in())))
        self.assertGreater(soon, 10)
        self.assertGreater(many, 3000)
        self.assertGreater(comers, 1000)

    def test_by_the_desk(self):
        desk = Desk()
        for row in TEXT.split("\n"):
            self.assertEqual(desk.say(f"let {row}"), "in")
        for row in ("come saw", "come press", "come shop 9", "go 3", "come drill 1", "leave press"):
            desk.say(row)
        self.assertEqual(desk.say("members"), "saw drill shop | press | -")
        self.assertEqual(desk.say("paper"), "holds")
        self.assertEqual(desk.say("go 100"), "3 4 drill 0; 4 8 shop 0; 8 14 press 0; 20 24 shop 1; 40 41 shop 2")
        self.assertEqual(desk.say("members"), "saw drill shop | - | -")


if __name__ == "__main__":
    unittest.main()
