"""Comings as texts (point 8, and point 2 for it)."""

import inspect
import random
import unittest

from duetimes import comingtexts
from duetimes.comings import Comings
from duetimes.comingtexts import read_comings
from duetimes.crews import Crew
from duetimes.errors import NoCrew, NoText, TimeError
from duetimes.members import Door, Task
from plain import some_crew, some_rows
from things import HUGE, NO_WHOLES, OTHER_KINDS

SAW = Task("saw", 3, 10, due=8)
EVERY = Task("every", 2, 5)
SHOP = Door("shop", 4, 20)
CREW = Crew((SAW, EVERY, SHOP))
LAST = 10 ** 9


class Asking(unittest.TestCase):
    def reads(self, text, *rows, crew=CREW):
        told = read_comings(crew, text)
        self.assertIsInstance(told, Comings)
        self.assertEqual(told, Comings(crew, rows))

    def refuses(self, text, row, crew=CREW):
        with self.assertRaises(NoText) as caught:
            read_comings(crew, text)
        self.assertIsInstance(caught.exception, TimeError)
        self.assertEqual((caught.exception.row, caught.exception.row.__class__), (row, int))

    def refuses_row(self, row):
        """A row that isn't so, by itself and behind others."""
        self.refuses(row, 0)
        self.refuses(f"# first\n\nshop 5\n{row}", 3)
        self.refuses(f"shop 5\n{row}\nnonsense", 1)


class Interface(unittest.TestCase):
    def test_the_function_stands_in_this_file(self):
        self.assertEqual(read_comings.__module__, "duetimes.comingtexts")
        self.assertIs(comingtexts.read_comings, read_comings)
        self.assertEqual(str(inspect.signature(read_comings)), "(crew, text)")
        self.assertEqual(read_comings(text="saw 4", crew=CREW), Comings(CREW, (("saw", 4, 3),)))


class Read(Asking):
    def test_without_rows(self):
        for text in ("", " ", "\n", "\n \n\n", "#", "# saw 4", "#saw 4\n  # saw 4\n", "   #\n\n##"):
            for crew in (CREW, Crew()):
                self.reads(text, crew=crew)

    def test_name_and_moment(self):
        self.reads("saw 4", ("saw", 4, 3))
        self.reads("shop 0", ("shop", 0, 4))
        self.reads(f"saw {LAST}", ("saw", LAST, 3))

    def test_name_moment_and_need(self):
        self.reads("saw 4 1", ("saw", 4, 1))
        self.reads("saw 4 3", ("saw", 4, 3))
        self.reads("shop 0 99", ("shop", 0, 99))
        self.reads("shop 0 1", ("shop", 0, 1))

    def test_every(self):
        self.reads("every saw 4 1", ("saw", 4, 3))
        self.reads("every saw 4 3", ("saw", 4, 3), ("saw", 14, 3), ("saw", 24, 3))
        self.reads("every shop 0 2", ("shop", 0, 4), ("shop", 20, 4))
        self.reads("every saw 7 999", *[("saw", 7 + 10 * time, 3) for time in range(999)])
        self.reads(f"every saw {LAST - 20} 3", *[("saw", LAST - 20 + 10 * time, 3) for time in range(3)])

    def test_a_member_called_every(self):
        self.reads("every 5", ("every", 5, 2))
        self.reads("every 5 1", ("every", 5, 1))
        self.reads("every every 5 2", ("every", 5, 2), ("every", 10, 2))
        self.reads("every 5\nevery every 10 1\nevery saw 0 1", ("every", 5, 2), ("every", 10, 2), ("saw", 0, 3))
        self.refuses("every 5 1 1", 0)
        self.refuses("every 5", 0, crew=Crew((SAW,)))
        self.reads("every saw 5 1", ("saw", 5, 3), crew=Crew((SAW,)))

    def test_blanks(self):
        for text in (
            " saw 4 1", "saw 4 1 ", "saw  4  1", "   saw    4   1    ", "every saw 4 1\n   ", " every  saw  4  1 ",
        ):
            self.assertEqual([row[:2] for row in read_comings(CREW, text).rows], [("saw", 4)])

    def test_remarks_and_rows_without_words(self):
        self.reads(
            "# what comes\n\nsaw 4\n   # saw 4\n  \n#nonsense\nshop 3 2\n\n", ("saw", 4, 3), ("shop", 3, 2),
        )
        self.reads("saw 4\n# \u00e4\t~", ("saw", 4, 3))
        self.refuses("saw 4 # here", 0)
        self.refuses("saw 4 1 #", 0)
        self.refuses("saw #4", 0)

    def test_in_any_turn(self):
        self.reads("saw 20\nshop 7\nsaw 0\nsaw 10 1", ("saw", 20, 3), ("shop", 7, 4), ("saw", 0, 3), ("saw", 10, 1))
        told = read_comings(CREW, "shop 7 2\nshop 7 1\nsaw 7")
        self.assertEqual(told.rows, (("saw", 7, 3), ("shop", 7, 2), ("shop", 7, 1)))

    def test_the_str_of_comings(self):
        source = random.Random(8)
        for time in range(200):
            crew = some_crew(source)
            made = Comings(crew, some_rows(source, crew))
            self.assertEqual(read_comings(crew, str(made)), made)
        made = Comings(CREW, (("saw", 5, 1), ("every", 5, 2), ("shop", 5, 99), ("shop", LAST, 4)))
        self.assertEqual(read_comings(CREW, str(made)), made)

    def test_a_thousand_and_one_more(self):
        thousand = "every saw 0 999\nsaw 99999"
        self.assertEqual(len(read_comings(CREW, thousand)), 1000)
        self.refuses(f"{thousand}\nshop 0", 2)
        self.refuses(f"{thousand}\n#\nshop 0\nshop 0", 3)
        self.refuses("every saw 0 999\nevery shop 0 2", 1)
        self.refuses("shop 0\nevery saw 0 999\nshop 1", 2)
        self.assertEqual(len(read_comings(CREW, "every saw 0 500\nevery shop 0 500")), 1000)
        self.refuses("every saw 0 500\nevery shop 0 501", 1)
        self.assertEqual(len(read_comings(CREW, "\n".join(["shop 0"] * 1000))), 1000)
        self.refuses("\n".join(["shop 0"] * 1001), 1000)


class Refused(Asking):
    def test_what_is_no_crew(self):
        for thing in NO_WHOLES + (0, HUGE, SAW, CREW.members, str(CREW), Crew, Comings(CREW)):
            for text in ("", "saw 4", "nonsense", None, 5):
                with self.assertRaises(NoCrew) as caught:
                    read_comings(thing, text)
                self.assertIsInstance(caught.exception, TimeError)
                self.assertIsNone(caught.exception.name)

    def test_what_is_no_text(self):
        for thing in OTHER_KINDS + (0, 1, HUGE, Comings(CREW), b"saw 4", ["saw 4"], ("saw 4",)):
            self.refuses(thing, 0)
            self.refuses(thing, 0, crew=Crew())

    def test_words_more_and_fewer(self):
        for row in (
            "saw", "shop", "every", "4", "saw 4 1 1", "saw 4 1 1 1", "every saw", "every saw 4", "every saw 4 1 1",
            "saw saw 4 1", "all saw 4 1", "Every saw 4 1", "every saw 4 one", "saw four", "saw 4 one", "saw 4 None",
        ):
            self.refuses_row(row)

    def test_names_of_no_member(self):
        for name in ("x", "sa", "saws", "SAW", "Saw", "4", "-", "shop#"):
            for row in (f"{name} 4", f"{name} 4 1", f"every {name} 4 1"):
                self.refuses_row(row)
        self.refuses("saw 4", 0, crew=Crew())

    def test_noughts_and_signs_ahead(self):
        for number in ("01", "00", "+1", "-1", "1.0", "1_0", "1,0", "0x1", "\u0661", "\u00b2", "1\t", "\t1", "1\r"):
            for row in (
                f"saw {number}", f"saw {number} 1", f"saw 4 {number}", f"every saw {number} 1", f"every saw 4 {number}",
            ):
                self.refuses_row(row)

    def test_beyond_their_bounds(self):
        for row in (
            f"saw {LAST + 1}", f"shop {LAST + 1}", "saw 4 0", "saw 4 4", "shop 4 0", "shop 4 100", "every 4 3",
            "every saw 4 0", "every saw 4 1000", "every shop 4 1000", f"every saw {LAST + 1} 1",
        ):
            self.refuses_row(row)

    def test_long_numbers(self):
        for number in ("9" * 11, "1" + "0" * 1200, "9" * 5000):
            for row in (
                f"saw {number}", f"saw 4 {number}", f"shop 4 {number}", f"every saw {number} 1", f"every saw 4 {number}",
            ):
                self.refuses_row(row)

    def test_beyond_the_last_moment(self):
        self.refuses_row(f"every saw {LAST - 20} 4")
        self.refuses_row(f"every saw {LAST - 19} 3")
        self.refuses_row(f"every shop {LAST} 2")
        self.refuses_row(f"every shop {LAST - 998 * 20 + 1} 999")
        self.assertEqual(len(read_comings(CREW, f"every shop {LAST - 998 * 20} 999")), 999)

    def test_nearer_than_its_gap(self):
        self.refuses("saw 4\nsaw 4", 1)
        self.refuses("saw 4\nsaw 13", 1)
        self.refuses("saw 14\nsaw 5", 1)
        self.refuses("saw 4\nshop 4\n#\nsaw 13\nnonsense", 3)
        self.refuses("every saw 0 5\nsaw 39", 1)
        self.refuses("saw 39\nevery saw 0 5", 1)
        self.refuses("saw 49\nevery saw 0 5\nsaw 1", 1)
        self.reads("saw 50\nevery saw 0 2", ("saw", 50, 3), ("saw", 0, 3), ("saw", 10, 3))
        self.reads("saw 4\nsaw 14", ("saw", 4, 3), ("saw", 14, 3))
        self.reads("shop 4\nshop 4\nshop 5", ("shop", 4, 4), ("shop", 4, 4), ("shop", 5, 4))

    def test_the_first_row_is_told(self):
        self.refuses("saw 4\nsaw 5\nnonsense", 1)
        self.refuses("saw 4\nnonsense\nsaw 5", 1)
        self.refuses("saw 4\nsaw 5\nevery shop 0 999\nevery shop 0 999", 1)
        self.refuses("every shop 0 999\nevery shop 0 999\nsaw 4\nsaw 5", 1)
        self.refuses("every shop 0 999\nsaw 4\nsaw 5", 2)
        self.refuses("nonsense\nmore nonsense", 0)

    def test_as_comings_refuse_row_by_row(self):
        source = random.Random(88)
        many = 0
        for time in range(200):
            crew = some_crew(source, doors=0.2)
            rows = [
                (source.choice((*crew.names(), "zz")), source.randint(0, 30), source.randint(0, 4)) for row in range(8)
            ]
            found = None
            for number in range(len(rows)):
                try:
                    Comings(crew, tuple(rows[:number + 1]))
                except ValueError:
                    found = number
                    break
            text = "\n".join([f"{name} {moment} {need}" for name, moment, need in rows])
            if found is None:
                self.reads(text, *rows, crew=crew)
            else:
                many += found > 0
                self.refuses(text, found, crew=crew)
        self.assertGreater(many, 50)


if __name__ == "__main__":
    unittest.main()
