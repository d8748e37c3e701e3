"""The desk (point 25, and points 2 and 3 for it)."""

import inspect
import random
import unittest

from duetimes import desk as desks
from duetimes.crews import Crew
from duetimes.desk import Desk
from duetimes.errors import (
    Breaks, Busy, FullError, LostError, NoName, NoNumber, NoPlain, NoRow, NoText, Standing, TimeError, TooMany, TooSoon,
)
from duetimes.gates import Gate
from duetimes.members import Door, Task
from duetimes.worst import worst
from plaingate import done, some_deed, PlainGate, Refused
from things import HUGE, OTHER_KINDS

SHOWS = ("point", "members", "works", "load", "paper")


def shown(desk):
    """All that a desk can be asked without a deed."""
    return [desk.say(row) for row in SHOWS]


def told_by(gate):
    """What a desk with such a gate should show, by the gate itself."""
    inside, left, soon = gate.who()
    works = "; ".join([f"{name} {number} {far}" for name, number, comes, far in gate.waiting_works()])
    top, bottom = Crew(tuple([gate.member(name) for name in inside])).load()
    return [
        str(gate.point()), " | ".join([" ".join(names) or "-" for names in (inside, left, soon)]), works or "none",
        f"{top}/{bottom}", "holds",
    ]


class KnownGate(Gate):
    """A gate whose members the tests know."""

    def __init__(self):
        super().__init__()
        self.known = {}

    def member(self, name):
        return self.known[name]


def row_of(deed):
    """A deed as a row of the desk."""
    return " ".join([str(part) for part in deed if part is not None])


def answer_of(deed, answer):
    """What the desk should answer where the gate does so."""
    if deed[0] == "leave":
        return "ok"
    if deed[0] == "go":
        return "; ".join([" ".join([str(part) for part in piece]) for piece in answer]) or "none"
    return str(answer)


class Asking(unittest.TestCase):
    def refuses(self, kind, family, desk, row):
        before = shown(desk)
        with self.assertRaises(kind) as caught:
            desk.say(row)
        self.assertIsInstance(caught.exception, family)
        self.assertEqual(shown(desk), before)
        return caught.exception

    def refuses_row(self, desk, *rows):
        for row in rows:
            self.assertEqual(vars(self.refuses(NoRow, TimeError, desk, row)), {})

    def says(self, desk, row, answer):
        told = desk.say(row)
        self.assertEqual((told, told.__class__), (answer, str), row)

    def desk(self, *rows):
        desk = Desk()
        for row in rows:
            desk.say(row)
        return desk


class Interface(unittest.TestCase):
    def test_the_class_stands_in_this_file(self):
        self.assertEqual(Desk.__module__, "duetimes.desk")
        self.assertIs(desks.Desk, Desk)
        self.assertEqual(str(inspect.signature(Desk)), "()")
        self.assertIn("say", vars(Desk))
        self.assertEqual(str(inspect.signature(Desk.say)), "(self, row)")
        self.assertEqual(Desk().say(row="point"), "0")


class Rows(Asking):
    def test_a_new_desk(self):
        desk = Desk()
        self.assertEqual(shown(desk), ["0", "- | - | -", "none", "0/1", "holds"])

    def test_let(self):
        desk = Desk()
        self.says(desk, "let task a 3 10 8", "in")
        self.says(desk, "let door d 3 10", "in")
        self.says(desk, "let task slow 6 60 50 t 1 4 u 2 2", "in")
        self.says(desk, "members", "a d slow | - | -")
        self.says(desk, "load", "7/10")

    def test_in_and_soon(self):
        desk = self.desk("let task slow 6 60 50 t 1 4", "come slow", "go 2")
        self.says(desk, "let task user 2 20 10 t 0 1", "soon")
        self.says(desk, "let door d 1 20", "in")
        self.says(desk, "members", "slow d | - | user")
        self.says(desk, "leave slow", "ok")
        self.says(desk, "members", "d | slow | user")
        self.says(desk, "leave d", "ok")
        self.says(desk, "members", "- | slow d | user")
        self.says(desk, "load", "0/1")
        self.says(desk, "paper", "holds")
        self.says(desk, "go 4", "2 6 slow 0")
        self.says(desk, "members", "user | - | -")
        self.says(desk, "leave user", "ok")
        self.says(desk, "members", "- | - | -")

    def test_several_names(self):
        desk = self.desk("let task a 5 10 10", "let task b 2 10 10", "let task c 1 10 10", "come a", "leave c", "leave a")
        self.says(desk, "let task e 4 10 10", "soon")
        self.says(desk, "let task f 4 10 10", "soon")
        self.says(desk, "members", "b | a c | e f")

    def test_come(self):
        desk = self.desk("let task a 3 10 8", "let door d 3 10")
        self.says(desk, "come a", "0")
        self.says(desk, "come d", "0")
        self.says(desk, "come d 99", "1")
        self.says(desk, "come d 1", "2")
        self.says(desk, "go 10", "0 3 a 0; 3 6 d 0")
        self.says(desk, "come a 1", "1")
        self.says(desk, "go 1", "10 11 a 1")
        self.says(desk, "works", "d 1 0")

    def test_go(self):
        desk = self.desk("let task a 3 10 8", "let task b 4 20 20")
        self.says(desk, "go 0", "none")
        self.says(desk, "go 5", "none")
        desk.say("come b")
        self.says(desk, "go 1", "5 6 b 0")
        desk.say("come a")
        self.says(desk, "go 0", "none")
        self.says(desk, "go 1000000", "6 9 a 0; 9 12 b 0")
        self.says(desk, "point", "1000006")
        self.says(desk, "go 1", "none")

    def test_works(self):
        desk = self.desk("let task b 4 20 20", "let task a 3 10 8", "come b", "go 1", "come a")
        self.says(desk, "works", "a 0 0; b 0 1")
        desk.say("go 2")
        self.says(desk, "works", "a 0 2; b 0 1")
        desk.say("go 1")
        self.says(desk, "works", "b 0 1")
        desk.say("go 9")
        self.says(desk, "works", "none")

    def test_by(self):
        desk = self.desk("let door d 3 10", "go 7")
        self.says(desk, "by d 1", "17")
        self.says(desk, "by d 99", "337")
        self.says(desk, "come d 2", "0")
        self.says(desk, "by d 2", "27")
        self.says(desk, "works", "none")

    def test_load(self):
        desk = self.desk("let task a 3 10 8", "let door d 3 20")
        self.says(desk, "load", "9/20")
        desk.say("come a")
        desk.say("leave a")
        self.says(desk, "load", "3/20")
        desk.say("let task full 17 20 20")
        self.says(desk, "load", "3/20")
        desk.say("go 3")
        self.says(desk, "load", "1/1")

    def test_longest(self):
        desk = self.desk("let task a 2 5 5", "let task b 2 6 5", "let door d 1 10")
        crew = Crew((Task("a", 2, 5), Task("b", 2, 6, due=5), Door("d", 1, 10)))
        for name in "abd":
            self.says(desk, f"longest {name}", str(worst(crew, name)[0]))
        desk.say("come a")
        desk.say("leave a")
        self.says(desk, "longest b", "2")
        self.assertEqual(self.refuses(NoName, LostError, desk, "longest a").name, "a")

    def test_paper(self):
        desk = Desk()
        for row in ("let task a 2 5 5", "let task slow 6 60 50 t 1 4", "let door d 1 10", "come a", "leave a", "go 9"):
            desk.say(row)
            self.says(desk, "paper", "holds")

    def test_one_desk_hears_nothing_of_another(self):
        one = Desk()
        other = Desk()
        before = shown(other)
        for row in ("let task a 3 10 8", "come a", "go 2", "leave a"):
            one.say(row)
        self.assertEqual(shown(other), before)
        self.assertNotEqual(shown(one), before)


class Refusals(Asking):
    def some(self):
        return self.desk("let task a 3 10 8", "let door d 3 10", "come a", "go 1")

    def test_what_is_no_text(self):
        for thing in OTHER_KINDS + (0, 1, HUGE, b"point", ["point"], ("point",), ("go", 1), Task("a", 1, 5)):
            self.refuses_row(self.some(), thing)

    def test_no_word_and_other_words(self):
        self.refuses_row(
            self.some(), "", " ", "  ", "\n", "Point", "POINT", "points", "help", "let_in task b 1 5 5", "a", "0", "task b 1 5 5",
            "log", "ended", "who", "serve a 0 1", "end", "point\n", "\npoint", "members\t", "go\t1", "#", "# point", "ok",
        )

    def test_words_more_and_fewer(self):
        self.refuses_row(
            self.some(), "let", "leave", "leave a d", "leave a 1", "come", "come a 1 1", "come d 1 d", "go", "go 1 1", "by",
            "by d", "by d 1 1", "point 0", "point point", "members all", "works a", "load a", "longest", "longest a a",
            "paper a", "paper 1",
        )

    def test_blanks(self):
        self.refuses_row(
            self.some(), " point", "point ", "  point", " go 1", "go 1 ", "go  1", "go ", "come a ", "come  a", "come d  1",
            "come  d 1", "come d 1 ", "leave a ", "leave  a", " leave a", "by d  1", "by  d 1", "by d 1 ", "members ",
            " members", "works ", "load ", "paper ", "longest a ", "longest  a", " let task b 1 5 5", "come d ", "by d ",
        )

    def test_words_without_signs_are_words(self):
        desk = self.some()
        for row in ("leave ", "come ", "longest "):
            self.assertEqual(self.refuses(NoName, LostError, desk, row).name, "")
        self.assertEqual(self.refuses(NoName, LostError, desk, "come  1").name, "")
        self.assertEqual(self.refuses(NoName, LostError, desk, "by  1").name, "")
        for row in ("let ", "let  ", "let  task b 1 5 5", "let task b 1 5 5 ", "let task  b 1 5 5"):
            self.assertEqual(self.refuses(NoText, TimeError, desk, row).row, 0)

    def test_numbers(self):
        desk = self.some()
        for number in (
            "01", "00", "+1", "-1", "1.0", "1_0", "one", "", "x", "\u0661", "\u00b2", "1\n", "\n1", "1\t", "1000000000",
            "9" * 10, "9" * 5000, "0" * 9, "None", "1,", "0x1",
        ):
            self.refuses_row(desk, f"go {number}", f"come d {number}", f"come a {number}", f"by d {number}")
            # Ahead of all that the functions refuse.
            self.refuses_row(desk, f"come x {number}", f"by x {number}", f"by a {number}")

    def test_numbers_of_nine_figures(self):
        desk = self.some()
        for number in (999999999, 100000000):
            for row in (f"go {number}", f"come d {number}", f"by d {number}"):
                refused = self.refuses(NoNumber, TimeError, desk, row)
                self.assertEqual((refused.number, refused.number.__class__), (number, int))
        for row in ("go 1000001", "come d 0", "come d 100", "by d 0", "by d 100"):
            self.assertEqual(self.refuses(NoNumber, TimeError, desk, row).number, int(row.split(" ")[-1]))

    def test_members_rows_that_are_none(self):
        desk = self.some()
        for row in (
            "task", "task b", "task b 1", "task b 1 5", "task b 0 5 5", "task b 100 5 5", "task b 1 5 6", "task b 01 5 5",
            "task b +1 5 5", "task b x 5 5", "task B 1 5 5", "task b 1 5 5 t", "task b 1 5 5 t 0 2", "door", "door b",
            "door b 1", "door b 0 5", "door b 1 601", "door b 1 5 5", "member b 1 5", "b", "Task(b)", "task b 9999999999 5 5",
            "task b 1 5 5\n", "\ntask b 1 5 5", "task b 1 5 5\ntask c 1 5 5", "door b 1 5\n", "task b " + "9" * 5000 + " 5 5",
        ):
            self.assertEqual(self.refuses(NoText, TimeError, desk, f"let {row}").row, 0)

    def test_as_the_functions_refuse(self):
        desk = self.desk("let task a 3 10 8", "let door d 3 10", "come a", "come d 9")
        for row, kind, family, fields in (
            ("let task a 1 10 10", Standing, FullError, {"name": "a"}),
            ("let door d 99 599", Standing, FullError, {"name": "d"}),
            ("let task b 99 599 599", TooMany, FullError, {"many": 5990, "most": 600}),
            ("leave x", NoName, LostError, {"name": "x"}),
            ("leave d", Busy, FullError, {"name": "d"}),
            ("leave A", NoName, LostError, {"name": "A"}),
            ("come x", NoName, LostError, {"name": "x"}),
            ("come x 0", NoName, LostError, {"name": "x"}),
            ("come a 4", NoNumber, TimeError, {"number": 4}),
            ("come a 0", NoNumber, TimeError, {"number": 0}),
            ("come a", TooSoon, FullError, {"first": 10}),
            ("come a 3", TooSoon, FullError, {"first": 10}),
            ("by a 1", NoName, LostError, {"name": "a"}),
            ("by x 0", NoName, LostError, {"name": "x"}),
            ("longest x", NoName, LostError, {"name": "x"}),
        ):
            self.assertEqual(vars(self.refuses(kind, family, desk, row)), fields)
        refused = self.refuses(Breaks, FullError, desk, "let task b 9 10 10")
        crew = Crew((Task("a", 3, 10, due=8), Door("d", 3, 10), Task("b", 9, 10)))
        self.assertEqual((refused.long, refused.comings.crew), (10, crew))
        desk = self.desk("let task a 3 10 8 t 0 1")
        self.refuses(NoPlain, TimeError, desk, "longest a")
        self.assertEqual(self.refuses(NoName, LostError, desk, "longest b").name, "b")
        desk = self.desk(*[f"let task {name} 1 20 20" for name in "abcdefgh"])
        refused = self.refuses(TooMany, FullError, desk, "let task i 1 20 20")
        self.assertEqual((refused.many, refused.most), (9, 8))


class AsAGate(Asking):
    def test_told_the_same(self):
        for seed in range(80):
            source = random.Random(seed)
            desk = Desk()
            gate = KnownGate()
            plain = PlainGate()
            for time in range(30):
                deed = some_deed(source, plain, "abcde", (5, 10, 20))
                try:
                    plain.do(deed)
                except Refused as refused:
                    with self.assertRaises(Exception) as caught:
                        desk.say(row_of(deed))
                    self.assertEqual(caught.exception.__class__.__name__, refused.kind)
                else:
                    answer = done(gate, deed)
                    self.says(desk, row_of(deed), answer_of(deed, answer))
                    if deed[0] == "let":
                        gate.known[deed[1].name] = deed[1]
                self.assertEqual(shown(desk), told_by(gate))
                for name in gate.who()[0]:
                    if isinstance(gate.member(name), Door):
                        need = source.randint(1, 9)
                        self.says(desk, f"by {name} {need}", str(gate.by_when(name, need)))
                self.check_longest(desk, gate)

    def check_longest(self, desk, gate):
        crew = Crew(tuple([gate.member(name) for name in gate.who()[0]]))
        for name in crew.names():
            try:
                told = str(worst(crew, name)[0])
            except NoPlain:
                with self.assertRaises(NoPlain):
                    desk.say(f"longest {name}")
            else:
                self.says(desk, f"longest {name}", told)


if __name__ == "__main__":
    unittest.main()
