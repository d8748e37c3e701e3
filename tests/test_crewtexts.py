"""Crews as texts (point 6, and point 2 for it)."""

import inspect
import random
import unittest

from duetimes import crewtexts
from duetimes.crews import Crew
from duetimes.crewtexts import read_crew
from duetimes.errors import NoText, TimeError
from duetimes.members import Door, Task
from plain import some_crew
from things import HUGE, OTHER_KINDS

SAW = Task("saw", 3, 12, due=10, holds=(("oil", 0, 2), ("vice", 1, 2)))
SHOP = Door("shop", 4, 20)
GOOD = "task a 1 5 5"
LONG = "9" * 5000


class Asking(unittest.TestCase):
    def refuses(self, text, row):
        with self.assertRaises(NoText) as caught:
            read_crew(text)
        self.assertIsInstance(caught.exception, TimeError)
        self.assertEqual((caught.exception.row, caught.exception.row.__class__), (row, int))

    def refuses_row(self, row):
        """A row that isn't so, by itself and behind others."""
        self.refuses(row, 0)
        self.refuses(f"task zz 1 5 5\n{row}", 1)
        self.refuses(f"task zz 1 5 5\ndoor yy 1 5\n{row}\nnonsense", 2)

    def reads(self, text, *members):
        told = read_crew(text)
        self.assertIsInstance(told, Crew)
        self.assertEqual(told, Crew(members))
        self.assertEqual(str(told), text)


class Interface(unittest.TestCase):
    def test_the_function_stands_in_this_file(self):
        self.assertEqual(read_crew.__module__, "duetimes.crewtexts")
        self.assertIs(crewtexts.read_crew, read_crew)
        self.assertEqual(str(inspect.signature(read_crew)), "(text)")
        self.assertEqual(read_crew(text="door a 1 2"), Crew((Door("a", 1, 2),)))


class Written(unittest.TestCase):
    def test_rows_of_members(self):
        self.assertEqual(str(Task("a", 1, 5)), "task a 1 5 5")
        self.assertEqual(str(SAW), "task saw 3 12 10 oil 0 2 vice 1 2")
        self.assertEqual(str(SHOP), "door shop 4 20")

    def test_crews(self):
        self.assertEqual(str(Crew()), "")
        self.assertEqual(str(Crew((SHOP,))), "door shop 4 20")
        self.assertEqual(str(Crew((SHOP, SAW))), "door shop 4 20\ntask saw 3 12 10 oil 0 2 vice 1 2")


class Read(Asking):
    def test_nobody(self):
        self.reads("")

    def test_one(self):
        self.reads("task a 1 5 5", Task("a", 1, 5))
        self.reads("task a 7 5 3", Task("a", 7, 5, due=3))
        self.reads("door a 7 5", Door("a", 7, 5))
        self.reads("task saw 3 12 10 oil 0 2 vice 1 2", SAW)

    def test_in_their_order(self):
        self.reads("door shop 4 20\ntask a 1 5 5", SHOP, Task("a", 1, 5))
        self.reads("task a 1 5 5\ndoor shop 4 20", Task("a", 1, 5), SHOP)

    def test_names_that_are_words(self):
        self.reads("task task 1 5 5\ndoor door 2 5", Task("task", 1, 5), Door("door", 2, 5))
        self.reads("task door 1 5 5 task 0 1", Task("door", 1, 5, holds=(("task", 0, 1),)))

    def test_one_to_four_holds(self):
        spans = (("a", 0, 1), ("a", 1, 1), ("b", 0, 3), ("c", 2, 1))
        for many in range(5):
            task = Task("t", 3, 9, holds=spans[:many])
            self.reads(str(task), task)

    def test_at_their_bounds(self):
        for row in (
            "task a 1 1 1", "task a 99 600 600", "task a 99 600 1", "task abcdefgh 1 600 600", "door a 1 1",
            "door abcdefgh 99 600", "task a 99 600 600 t 0 99", "task a 99 600 600 t 98 1", "task a 1 1 1 t 0 1",
        ):
            self.assertEqual(str(read_crew(row)), row)

    def test_none_to_eight_of_any_kind(self):
        members = [Task(name, 2, 9, due=4, holds=(("t", 0, 2),)) for name in "abcd"]
        members += [Door(name, 3, 8) for name in "efgh"]
        for many in range(9):
            crew = Crew(tuple(members[:many]))
            self.assertEqual(read_crew(str(crew)), crew)
        source = random.Random(6)
        for time in range(300):
            crew = some_crew(source, most=8, costs=9)
            told = read_crew(str(crew))
            self.assertEqual(told, crew)
            self.assertIsNot(told, crew)

    def test_what_is_told_is_new(self):
        self.assertIsNot(read_crew(GOOD), read_crew(GOOD))


class Refused(Asking):
    def test_what_is_no_text(self):
        for thing in OTHER_KINDS + (0, 1, HUGE, Crew(), Task("a", 1, 5), read_crew, b"task a 1 5 5", [GOOD], (GOOD,)):
            self.refuses(thing, 0)

    def test_words_more_and_fewer(self):
        for row in (
            "task", "task a", "task a 1", "task a 1 5", "task a 1 5 5 t", "task a 1 5 5 t 0", "task a 1 5 5 t 0 1 u",
            "task a 1 5 5 t 0 1 u 0", "task a 1 5 5 5", "task a 1 5 5 0 1", "door", "door a", "door a 1", "door a 1 5 5",
            "door a 1 5 t 0 1", "a 1 5 5", "a", "1 5 5",
        ):
            self.refuses_row(row)

    def test_other_words(self):
        for row in ("tasks a 1 5 5", "Task a 1 5 5", "TASK a 1 5 5", "doors a 1 5", "gate a 1 5", "tas a 1 5 5", "# a"):
            self.refuses_row(row)

    def test_names(self):
        for name in ("A", "a1", "abcdefghi", "1", "a-b", "0", "-", "a_"):
            self.refuses_row(f"task {name} 1 5 5")
            self.refuses_row(f"door {name} 1 5")
            self.refuses_row(f"task a 1 5 5 {name} 0 1")

    def test_blanks(self):
        for row in (
            " task a 1 5 5", "task a 1 5 5 ", "task  a 1 5 5", "task a  1 5 5", "task a 1 5  5", "  ", " ", "door a 1 5 ",
            " door a 1 5", "door a 1  5", "task a 1 5 5  t 0 1", "task a 1 5 5 t 0 1 ", "task a 1 5 5 t  0 1",
            "task  1 5 5", "door  1 5", "task a 1 5 5 ", "task\ta\t1\t5\t5", "task a 1 5 5\t", "task a 1 5 5\r",
        ):
            self.refuses_row(row)

    def test_empty_rows_and_line_ends_at_the_ends(self):
        self.refuses("\n", 0)
        self.refuses("\n\n", 0)
        self.refuses(f"\n{GOOD}", 0)
        self.refuses(f"{GOOD}\n", 1)
        self.refuses(f"{GOOD}\n\n", 1)
        self.refuses(f"{GOOD}\n\ndoor b 1 5", 1)
        self.refuses(f"{GOOD}\ndoor b 1 5\n", 2)

    def test_noughts_and_signs_ahead(self):
        for number in ("01", "00", "001", "+1", "-1", "1.0", "1_0", "1e0", "0x1", "one", "\u0661", "\u00b2", "\u00bd"):
            self.refuses_row(f"task a {number} 5 5")
            self.refuses_row(f"task a 1 {number} 1")
            self.refuses_row(f"task a 1 5 {number}")
            self.refuses_row(f"task a 2 5 5 t {number} 1")
            self.refuses_row(f"task a 2 5 5 t 0 {number}")
            self.refuses_row(f"door a {number} 5")
            self.refuses_row(f"door a 1 {number}")

    def test_beyond_their_bounds(self):
        for row in (
            "task a 0 5 5", "task a 100 500 500", "task a 1 0 0", "task a 1 601 1", "task a 1 5 0", "task a 1 5 6",
            "door a 0 5", "door a 100 5", "door a 1 0", "door a 1 601", "task a 2 5 5 t 0 0", "task a 2 5 5 t 0 3",
            "task a 2 5 5 t 1 2", "task a 2 5 5 t 2 1", "task a 2 5 5 t 3 1",
        ):
            self.refuses_row(row)

    def test_long_numbers(self):
        for number in ("9" * 10, "1" + "0" * 1200, LONG):
            for row in (
                f"task a {number} 5 5", f"task a 1 {number} 5", f"task a 1 5 {number}", f"task a 1 5 5 t {number} 1",
                f"task a 1 5 5 t 0 {number}", f"door a {number} 5", f"door a 1 {number}",
            ):
                self.refuses_row(row)

    def test_holds_that_make_no_task(self):
        for spans in (
            "t 0 2 s 0 2", "t 0 2 t 1 1", "t 1 1 t 0 1", "t 0 1 t 0 1", "a 0 1 b 0 1 c 0 1 d 0 1 e 0 1", "t 0 3 t 2 1",
        ):
            self.refuses_row(f"task a 3 5 5 {spans}")

    def test_a_name_twice(self):
        self.refuses(f"{GOOD}\n{GOOD}", 1)
        self.refuses(f"{GOOD}\ndoor b 1 5\ndoor a 1 5", 2)
        self.refuses(f"door b 1 5\n{GOOD}\ntask b 1 5 5\nnonsense", 2)

    def test_a_ninth_member(self):
        eight = "\n".join([f"door {name} 1 5" for name in "abcdefgh"])
        self.assertEqual(len(read_crew(eight)), 8)
        self.refuses(f"{eight}\ndoor i 1 5", 8)
        self.refuses(f"{eight}\ndoor i 1 5\ndoor j 1 5", 8)
        self.refuses(f"{eight}\ndoor a 1 5", 8)
        self.refuses(f"{eight}\nnonsense", 8)
        self.refuses(f"{eight}\n", 8)

    def test_the_first_row_is_told(self):
        self.refuses(f"{GOOD}\nx\ny\n{GOOD}", 1)
        self.refuses(f"{GOOD}\n{GOOD}\nx", 1)

    def test_any_sign_more_is_read_otherwise_or_refused(self):
        text = "task ab 3 12 10 t 0 2\ndoor c 4 20"
        crew = read_crew(text)
        for at in range(len(text) + 1):
            for sign in ("\n", " ", "0", "#"):
                try:
                    self.assertNotEqual(read_crew(text[:at] + sign + text[at:]), crew)
                except NoText as refused:
                    row = text[:at].count("\n")
                    self.assertIn(refused.row, (row, row + 1) if sign == "\n" else (row,))


if __name__ == "__main__":
    unittest.main()
