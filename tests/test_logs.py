"""Logs (point 22, and points 2 and 3 for it)."""

import inspect
import random
import unittest

from duetimes import logs
from duetimes.crews import Crew
from duetimes.errors import NoText, TimeError
from duetimes.gates import Gate
from duetimes.logs import kept, read_log
from duetimes.members import Door, Task
from plaingate import Both, PlainGate, Refused, some_deed
from things import HUGE, OTHER_KINDS

A = Task("a", 3, 10, due=8)
B = Task("b", 4, 20)
DOOR = Door("d", 3, 10)
SLOW = Task("slow", 6, 60, due=50, holds=(("t", 1, 4),))
WORDS = ("let", "leave", "come")
FAR = 10 ** 40

LOG = """0 let task a 3 10 8
0 let door d 3 10
0 let task slow 6 60 50 t 1 4
0 come slow 6
0 come d 3
0 serve d 0 3
3 serve slow 0 4
4 come a 2
4 leave d
4 serve a 0 6
6 serve slow 0 11
12 end"""


def some_gate(case, seed, gaps=(5, 10, 20), times=30):
    """A gate at which a lot came to pass."""
    source = random.Random(seed)
    both = Both(case, source.choice((None, Crew((A, DOOR)))))
    for time in range(times):
        both.do(*some_deed(source, both.plain, "abcde", gaps))
    return both.gate


def plain_kept(rows):
    """A plain gate does all deeds that it can, then its rows are compared."""
    gate = PlainGate()
    stop = len(rows)
    for number, row in enumerate(rows):
        if row[1] in WORDS or row is rows[-1]:
            if row[0] < gate.point:
                stop = number
                break
            gate.go(row[0] - gate.point)
            if row[1] in WORDS:
                try:
                    gate.do(row[1:])
                except Refused:
                    stop = number
                    break
    has = [*gate.rows, (gate.point, "end")]
    for number, row in enumerate(rows):
        if number == stop or number >= len(has) or has[number] != row:
            return number
    return None


class Interface(unittest.TestCase):
    def test_the_functions_stand_in_this_file(self):
        for name, found, row in (("read_log", read_log, "(text)"), ("kept", kept, "(rows)")):
            self.assertEqual(found.__module__, "duetimes.logs")
            self.assertIs(getattr(logs, name), found)
            self.assertEqual(str(inspect.signature(found)), row)
        self.assertIsNone(kept(rows=read_log(text="5 end")))


class Read(unittest.TestCase):
    def refuses(self, text, row):
        with self.assertRaises(NoText) as caught:
            read_log(text)
        self.assertIsInstance(caught.exception, TimeError)
        self.assertEqual((caught.exception.row, caught.exception.row.__class__), (row, int), text)

    def refuses_row(self, row):
        """A row that isn't so, by itself and with others."""
        self.refuses(row, 0)
        self.refuses(f"{row}\n9 end", 0)
        self.refuses(f"0 let task a 3 10 8\n0 leave a\n{row}\n9 end", 2)
        self.refuses(f"0 leave a\n{row}\nnonsense", 1)

    def test_each_kind_of_row(self):
        told = read_log(LOG)
        self.assertIsInstance(told, tuple)
        self.assertEqual(told, (
            (0, "let", A), (0, "let", DOOR), (0, "let", SLOW), (0, "come", "slow", 6), (0, "come", "d", 3),
            (0, "serve", "d", 0, 3), (3, "serve", "slow", 0, 4), (4, "come", "a", 2), (4, "leave", "d"),
            (4, "serve", "a", 0, 6), (6, "serve", "slow", 0, 11), (12, "end"),
        ))
        for row in told:
            self.assertIsInstance(row, tuple)

    def test_the_end_alone(self):
        self.assertEqual(read_log("0 end"), ((0, "end"),))
        self.assertEqual(read_log("17 end"), ((17, "end"),))

    def test_rows_by_themselves(self):
        # No gate has such rows, but each is one.
        self.assertEqual(read_log("9 leave x\n3 come end 0\n5 serve let 99 6\n2 end"), (
            (9, "leave", "x"), (3, "come", "end", 0), (5, "serve", "let", 99, 6), (2, "end"),
        ))

    def test_any_numbers(self):
        long = "9" * 900
        told = read_log(f"{long} come a {long}\n0 serve a {long} {long}\n{long} end")
        self.assertEqual(told, (
            (int(long), "come", "a", int(long)), (0, "serve", "a", int(long), int(long)), (int(long), "end"),
        ))

    def test_names_at_their_bounds(self):
        self.assertEqual(read_log("0 leave abcdefgh\n0 end")[0], (0, "leave", "abcdefgh"))
        for name in ("abcdefghi", "A", "a1", "1", "-", "a_b"):
            for row in (f"0 leave {name}", f"0 come {name} 1", f"0 serve {name} 0 1"):
                self.refuses_row(row)

    def test_what_is_no_text(self):
        for thing in OTHER_KINDS + (0, 1, HUGE, Gate(), b"0 end", ["0 end"], ("0 end",), read_log("0 end")):
            self.refuses(thing, 0)

    def test_words_more_and_fewer(self):
        for row in (
            "", "0", "let", "0 let", "0 let a", "0 let task", "0 let task a 3 10", "0 let door d 3", "0 leave",
            "0 leave a b", "0 come", "0 come a", "0 come a 1 1", "0 serve", "0 serve a", "0 serve a 0", "0 serve a 0 1 1",
            "end", "0 0 end", "leave a", "0 go 1", "0 Leave a", "0 stay a", "a leave 0", "0 task a 3 10 8", "0  a",
        ):
            self.refuses_row(row)
        self.refuses("0 end 0", 0)
        self.refuses("0 end a", 0)
        self.refuses("0 End", 0)
        self.refuses("end", 0)

    def test_blanks(self):
        for row in (
            " 0 leave a", "0 leave a ", "0  leave a", "0 leave  a", "0 come a  1", "0 serve a 0  1", "0 let  task a 3 10 8",
            "0 let task a 3 10 8 ", "0 serve a 0 1 ", "0 leave ", "0 let ", "0 come  1",
        ):
            self.refuses_row(row)
        self.refuses("0 end ", 0)
        self.refuses(" 0 end", 0)
        self.refuses("0  end", 0)

    def test_noughts_and_signs_ahead(self):
        for number in ("01", "00", "+1", "-1", "1.0", "1_0", "one", "\u0661"):
            for row in (
                f"{number} leave a", f"{number} let door d 3 10", f"{number} come a 1", f"0 come a {number}",
                f"{number} serve a 0 9", f"0 serve a {number} 9", f"0 serve a 0 {number}", f"0 let door d {number} 10",
            ):
                self.refuses_row(row)
            self.refuses(f"{number} end", 0)

    def test_to_at_and_below_its_point(self):
        for row in ("5 serve a 0 5", "5 serve a 0 4", "5 serve a 0 0", "0 serve a 0 0", "10 serve a 0 9"):
            self.refuses_row(row)
        self.assertEqual(read_log("5 serve a 0 6\n0 end")[0], (5, "serve", "a", 0, 6))
        self.assertEqual(read_log("9 serve a 0 10\n0 end")[0], (9, "serve", "a", 0, 10))

    def test_members_that_are_none(self):
        for member in (
            "task a 0 10 8", "task a 100 10 8", "task a 3 601 8", "task a 3 10 11", "task A 3 10 8", "door d 0 10",
            "door d 3 601", "task a 3 10 8 t 0 4", "task a 3 10 8 t 0", "gate a 3 10", "Task(a)",
        ):
            self.refuses_row(f"0 let {member}")
        # By themselves: that names stand twice is nothing to them.
        self.assertEqual(len(read_log("\n".join(["0 let door d 3 10"] * 9 + ["0 end"]))), 10)

    def test_an_end_that_is_not_the_last(self):
        self.refuses("0 end\n0 end", 0)
        self.refuses("0 leave a\n5 end\n5 leave a", 1)
        self.refuses("0 leave a\n5 end\n5 leave a\n6 end", 1)
        self.refuses("0 end\n", 0)
        self.refuses("0 leave a\n0 end\nnonsense", 1)
        self.refuses("nonsense\n0 end\n0 end", 0)

    def test_no_end(self):
        self.refuses("", 0)
        self.refuses("0 leave a", 1)
        self.refuses("0 leave a\n0 leave b\n0 serve a 0 1", 3)
        self.refuses(LOG.rpartition("\n")[0], 11)
        self.refuses(LOG.rpartition("\n")[0] + "\n", 11)
        self.refuses("0 leave a\nnonsense", 1)
        self.refuses("\n", 0)

    def test_logs_of_gates(self):
        for seed in range(60):
            gate = some_gate(self, seed)
            told = read_log(gate.log())
            text = "\n".join([" ".join([str(part) for part in row]) for row in told])
            self.assertEqual(text, gate.log())


class Kept(unittest.TestCase):
    def check(self, rows):
        told = kept(rows)
        self.assertEqual(told, plain_kept(rows), rows)
        return told

    def test_the_end_alone(self):
        for point in (0, 1, 17):
            self.assertIsNone(self.check(((point, "end"),)))
        self.assertIsNone(kept(((FAR, "end"),)))

    def test_one_by_hand(self):
        rows = read_log(LOG)
        self.assertIsNone(self.check(rows))
        # Where one more moment is wanted at d somebody still waits there at 4.
        self.assertEqual(self.check((*rows[:4], (0, "come", "d", 4), *rows[5:])), 8)

    def test_logs_of_gates(self):
        for seed in range(150):
            gate = some_gate(self, seed)
            before = gate.log()
            self.assertIsNone(kept(read_log(before)))
            self.assertEqual(gate.log(), before)

    def test_of_gates_made_with_a_crew(self):
        crew = Crew((SLOW, A, DOOR, B))
        gate = Gate(crew)
        self.assertEqual([row[2] for row in read_log(gate.log())[:-1]], list(crew.members))
        gate.come("slow")
        gate.come("d", need=9)
        gate.go(50)
        rows = read_log(gate.log())
        self.assertIsNone(self.check(rows))

    def test_each_part_otherwise(self):
        rows = read_log(LOG)
        for number, row in enumerate(rows):
            for at, part in enumerate(row):
                for other in self.others(at, part):
                    changed = (*rows[:number], (*row[:at], other, *row[at + 1:]), *rows[number + 1:])
                    told = self.check(changed)
                    if row[1] == "serve" and other != part:
                        self.assertEqual(told, number)

    def others(self, at, part):
        if isinstance(part, int):
            return [part + by for by in (-2, -1, 1, 2, 100) if part + by >= 0]
        if isinstance(part, Task):
            more = part.holds + (("z", 0, 1),)
            return [Task(part.name, part.cost + 1, part.gap), Task(part.name, part.cost, part.gap, due=part.due, holds=more)]
        if isinstance(part, Door):
            return [Door(part.name, part.room - 1, part.gap), Door("x", part.room, part.gap), A]
        return ["x", "a", "d", "slow"] if at == 2 else []

    def test_which_number_is_told(self):
        start = ((0, "let", A), (0, "let", DOOR), (0, "come", "a", 3))
        good = (*start, (0, "serve", "a", 0, 3), (5, "end"))
        self.assertIsNone(self.check(good))
        for rows, number in (
            # A point, a TO, a number, a name otherwise.
            ((*start, (1, "serve", "a", 0, 3), (5, "end")), 3),
            ((*start, (0, "serve", "a", 0, 2), (5, "end")), 3),
            ((*start, (0, "serve", "a", 0, 4), (5, "end")), 3),
            ((*start, (0, "serve", "a", 1, 3), (5, "end")), 3),
            ((*start, (0, "serve", "d", 0, 3), (5, "end")), 3),
            # The end within the piece, and ahead of where the gate is.
            ((*start, (0, "serve", "a", 0, 3), (2, "end")), 3),
            ((*start, (0, "serve", "a", 0, 2), (2, "end")), None),
            ((*start, (0, "end")), None),
            ((*start, (0, "serve", "a", 0, 3), (3, "end")), None),
            (((3, "let", A), (2, "end")), 1),
            (((3, "let", A), (3, "end")), None),
            # A row left out, twice, put in.
            ((*start, (5, "end")), 3),
            ((*good[:4], *good[3:]), 4),
            ((*start, (0, "serve", "a", 0, 2), (2, "serve", "a", 0, 3), (5, "end")), 3),
            # A need otherwise.
            ((*start[:2], (0, "come", "a", 2), *good[3:]), 3),
            # Refused: NEED, a name, too soon, standing, too many.
            ((*start[:2], (0, "come", "a", 4), *good[3:]), 2),
            ((*start[:2], (0, "come", "x", 3), *good[3:]), 2),
            ((*start, (0, "come", "a", 3), *good[3:]), 3),
            ((*start, (0, "let", A), *good[3:]), 3),
            ((*start, (0, "let", Task("b", 1, 599)), *good[3:]), 3),
            ((*start, (0, "let", Task("b", 9, 10)), *good[3:]), 3),
            ((*start, (0, "leave", "x"), *good[3:]), 3),
            # Refused at a point to which the gate goes; the piece goes no further.
            ((*start, (0, "serve", "a", 0, 3), (2, "leave", "x"), (5, "end")), 3),
            ((*start, (0, "serve", "a", 0, 2), (2, "leave", "x"), (2, "serve", "a", 0, 3), (5, "end")), 4),
            # A deed that lies ahead of where the gate is.
            (((5, "let", A), (4, "let", DOOR), (5, "end")), 1),
            (((5, "let", A), (5, "come", "a", 3), (4, "leave", "a"), (9, "end")), 2),
            # Deeds part a piece.
            ((*start, (0, "serve", "a", 0, 3), (1, "leave", "d"), (5, "end")), 3),
            ((*start, (0, "serve", "a", 0, 1), (1, "leave", "d"), (5, "end")), 5),
            ((*start, (0, "serve", "a", 0, 1), (1, "leave", "d"), (1, "serve", "a", 0, 3), (5, "end")), None),
            # Exchanged with the next one.
            ((start[1], start[0], *good[2:]), None),
            ((start[0], start[2], start[1], *good[3:]), None),
            ((start[2], *start[:2], *good[3:]), 0),
        ):
            self.assertEqual(self.check(rows), number, rows)

    def test_rows_left_out_twice_exchanged_and_put_in(self):
        source = random.Random(22)
        told = []
        for seed in range(25):
            rows = read_log(some_gate(self, seed).log())
            for number in range(len(rows) - 1):
                pieces = [row for row in rows if row[1] == "serve"]
                for changed in (
                    (*rows[:number], *rows[number + 1:]),
                    (*rows[:number + 1], *rows[number:]),
                    (*rows[:number], rows[number + 1], rows[number], *rows[number + 2:]) if number + 2 < len(rows) else rows,
                    (*rows[:number], source.choice(rows[:-1]), *rows[number:]),
                    (*rows[:number], source.choice(pieces or [rows[0]]), *rows[number:]),
                ):
                    told.append(self.check(changed) is None)
        self.assertGreater(told.count(True), 10)
        self.assertGreater(told.count(False), 1000)

    def test_numbers_otherwise_in_any_logs(self):
        source = random.Random(23)
        for seed in range(80):
            rows = read_log(some_gate(self, seed).log())
            for time in range(20):
                number = source.randrange(len(rows))
                row = rows[number]
                places = [at for at, part in enumerate(row) if isinstance(part, int)]
                at = source.choice(places)
                other = max(0, row[at] + source.choice((-3, -1, 1, 3, 40)))
                self.check((*rows[:number], (*row[:at], other, *row[at + 1:]), *rows[number + 1:]))

    def test_members_otherwise(self):
        gate = Gate(Crew((A, DOOR)))
        gate.come("a")
        gate.go(1)
        gate.let_in(Task("b", 2, 10, due=5))
        gate.go(9)
        rows = read_log(gate.log())
        self.assertIsNone(self.check(rows))
        at = [row[1:] for row in rows].index(("let", Task("b", 2, 10, due=5)))
        self.assertEqual(self.check((*rows[:at], (1, "let", Task("b", 6, 10, due=6)), *rows[at + 1:])), at)
        self.assertIsNone(self.check((*rows[:at], (1, "let", Task("b", 1, 10, due=9)), *rows[at + 1:])))

    def test_rows_that_no_log_has(self):
        # Not as read_log tells them, but a row that is left out may be the end.
        start = ((0, "let", A), (0, "come", "a", 3))
        self.assertEqual(kept(()), 0)
        self.assertEqual(kept(start), 2)
        self.assertEqual(kept((*start, (0, "serve", "a", 0, 3))), 2)
        self.assertEqual(kept((*start, (3, "end"), (0, "serve", "a", 0, 3))), 2)
        self.assertEqual(kept((*start, (0, "end"), (0, "end"))), 3)
        self.assertEqual(kept((*start, (0, "end"), (0, "leave", "a"), (0, "end"))), 2)

    def test_points_far_apart(self):
        rows = (
            (0, "let", A), (0, "let", DOOR), (0, "come", "d", 7), (0, "serve", "d", 0, 3), (10, "serve", "d", 1, 13),
            (20, "serve", "d", 2, 21), (FAR, "come", "a", 3), (FAR, "serve", "a", 0, FAR + 3), (2 * FAR, "leave", "a"),
            (FAR ** 2, "come", "d", 1), (FAR ** 2, "serve", "d", 3, FAR ** 2 + 1), (10 ** 900, "end"),
        )
        self.assertIsNone(kept(rows))
        self.assertEqual(kept((*rows[:6], (FAR, "come", "a", 4), *rows[7:])), 6)
        self.assertEqual(kept((*rows[:7], (FAR, "serve", "a", 0, FAR + 2), *rows[8:])), 7)
        self.assertEqual(kept((*rows[:8], (FAR - 1, "leave", "a"), *rows[9:])), 7)
        self.assertEqual(kept((*rows[:9], (2 * FAR - 1, "come", "d", 1), *rows[10:])), 9)
        self.assertEqual(kept((*rows[:5], *rows[6:])), 5)
        text = "\n".join([" ".join([str(part) for part in row]) for row in rows])
        self.assertEqual(read_log(text), rows)

    def test_nothing_is_changed(self):
        rows = read_log(some_gate(self, 5).log())
        before = tuple(rows)
        kept(rows)
        self.assertEqual(rows, before)


if __name__ == "__main__":
    unittest.main()
