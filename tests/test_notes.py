"""Points 27, 28 and 30: the rows of a frame's text, those that are none, and the text of a frame."""

import copy
import inspect
import random
import unittest
from fractions import Fraction

from trussyard import notes
from trussyard.errors import NoLine, NoPin, PinThere
from trussyard.frames import Frame
from trussyard.holds import Fixed, Hold
from trussyard.notes import read_frame, show_frame
from yards import (Checks, RIGHT, UP, braced_square, crowd, frame_of, frames, lattice, long_places, number, pair,
                   roller, slanted, snapshot, triangle)

PINS = "pin a 0 0 fixed\npin b 4 0 roller 0 1\npin c 1 3"
TEXT = PINS + "\nbar ab a b\nbar bc b c\nbar ca c a"
ODD_SIGNS = ("\r", "\v", "\f", "\x1c", "\x1d", "\x1e", "\x85", "\u2028", "\u2029", "\t", "\xa0")
LONG = "9" * 60
TWENTY = "a1b2c3d4e5f6g7h8i9j0"


class Rows(Checks, unittest.TestCase):
    def assert_no_line(self, text, at):
        self.assert_refused(NoLine, {"at": at}, read_frame, text)

    def assert_no_row(self, row):
        """Such a row is none, wherever it stands."""
        with self.subTest(row):
            if row != "":
                self.assert_no_line(row, 0)
            self.assert_no_line(f"pin x 9 9\n{row}", 1)
            self.assert_no_line(f"piece z\npin x 9 9\n{row}\nend", 2)
            self.assert_no_line(f"piece p\nend\npin n 0 0\npin o 1 1\n{row}\nbar x y z", 4)


class ReadTest(Rows):
    def test_a_text_without_signs(self):
        F = read_frame("")
        self.assertEqual((F.pins(), F.bars()), ([], []))
        self.assertIsInstance(F, Frame)

    def test_each_sort_of_row(self):
        F = read_frame("pin p -1/2 3\npin q 0 0 fixed\npin r 7 0 roller -2 1/3\nbar x p q\nbar p r q")
        self.assertEqual(snapshot(F), (
            [("p", pair(Fraction(-1, 2), 3), []), ("q", pair(0, 0), [RIGHT, UP]),
             ("r", pair(7, 0), [pair(-2, Fraction(1, 3))])], [("x", ("p", "q")), ("p", ("r", "q"))]))
        F = read_frame("piece one\npin p 1 2\nend\nlay one a 0 0\nlay one b 1/2 -1 2 3 0")
        self.assertEqual([(pin, F.place(pin)) for pin in F.pins()],
                         [("ap", pair(1, 2)), ("b0p", pair(Fraction(3, 2), 1)), ("b1p", pair(Fraction(9, 2), 1))])

    def test_the_frame_told_is_the_asker_s_own(self):
        F, G = read_frame(TEXT), read_frame(TEXT)
        F.take_bar("ab")
        F.put_pin("d", *pair(9, 9))
        self.assertEqual(snapshot(G), snapshot(triangle()))
        self.assertEqual(snapshot(read_frame(TEXT)), snapshot(triangle()))

    def test_words_that_look_like_others(self):
        F = read_frame("pin pin 0 0\npin bar 1 0 fixed\npin fixed 2 0\npin roller 3 0\n"
                       "bar end pin bar\nbar bar roller fixed")
        self.assertEqual(F.pins(), ["pin", "bar", "fixed", "roller"])
        self.assertEqual([F.ends(bar) for bar in ("end", "bar")], [("pin", "bar"), ("roller", "fixed")])
        F = read_frame("piece end\npin 0 0 0\nend\npiece piece\nend\nlay end lay 0 0\nlay piece 0 0 0 1 0 0")
        self.assertEqual(F.pins(), ["lay0"])
        F = read_frame("pin end 0 0\npin lay 1 0\npin piece 2 0\nbar x lay end\nbar y end lay\nbar z lay piece\n"
                       "piece p\npin end 0 0\npin lay 0 1\nbar bar lay end\nend\nlay p end 5 5")
        self.assertEqual([F.ends(bar) for bar in F.bars()],
                         [("lay", "end"), ("end", "lay"), ("lay", "piece"), ("endlay", "endend")])

    def test_a_word_more_and_a_word_less(self):
        for row in ("pin", "pin n", "pin n 1", "pin n 1 2 3", "pin n 1 2 fixed 1", "pin n 1 2 fixed fixed",
                    "pin n 1 2 roller", "pin n 1 2 roller 1", "pin n 1 2 roller 1 2 3", "pin n 1 2 plain",
                    "pin n 1 2 1 2", "bar", "bar n", "bar n o", "bar n o p q", "piece", "piece n o", "end end",
                    "end p", "lay", "lay p", "lay p q", "lay p q 0", "lay p q 0 0 1", "lay p q 0 0 1 0",
                    "lay p q 0 0 1 0 0 0", "lay p 0 0", "hold n 1 2", "n 1 2", "PIN n 1 2", "Bar n o p", "ends",
                    "pin n 1 2 Fixed", "pin n 1 2 roller 1 x"):
            self.assert_no_row(row)

    def test_blanks_and_tabs(self):
        for row in ("", " ", "  ", "\t", "pin  n 1 2", "pin n  1 2", "pin n 1 2 ", " pin n 1 2", "pin n 1 2\t",
                    "\tpin n 1 2", "pin\tn 1 2", "pin n 1\t2", "pin n 1 2 fixed ", "pin n 1 2  fixed", "bar x  n o",
                    "bar x n o ", "bar x n\to", "piece n ", "piece\tn", "piece  n", "end ", " end", "end\t",
                    "lay p q 0 0 ", "lay p q 0  0", "lay p q 0 0 1 0 0 ", "lay p q 0 0\t1 0 0",
                    "lay  p q 0 0", "pin n 1 2  "):
            self.assert_no_row(row)

    def test_names(self):
        for name in ("0", "z", "a9", TWENTY, "9" * 20):
            F = read_frame(f"pin {name} 0 0\npin {name[:-1]}x 1 0\nbar {name} {name} {name[:-1]}x")
            self.assertEqual((F.pins()[0], F.bars()), (name, [name]))
            self.assertEqual(read_frame(f"piece {name}\npin p 0 0\nend\nlay {name} {name} 0 0").pins(), [name + "p"])
        for name in ("A", "aB", TWENTY + "k", "a-b", "a_b", "a.", "a;", "a=", "\u00e4", "\u00e9", "\u0661", "\uff41",
                     "a\u0301"):
            for row in (f"pin {name} 1 2", f"pin {name} 1 2 fixed", f"pin {name} 1 2 roller 1 2", f"bar {name} n o",
                        f"bar x {name} o", f"bar x n {name}", f"piece {name}", f"lay {name} q 0 0", f"lay p {name} 0 0",
                        f"lay p {name} 0 0 1 0 0"):
                self.assert_no_row(row)

    def test_numbers(self):
        F = read_frame(f"pin n {LONG} -{LONG}\npin o -1/{LONG} {LONG}/10 roller -{LONG} 1/{LONG}")
        self.assertEqual(F.place("n"), pair(int(LONG), -int(LONG)))
        self.assertEqual(F.place("o"), pair(Fraction(-1, int(LONG)), Fraction(int(LONG), 10)))
        self.assertEqual(F.ways("o"), [pair(-int(LONG), Fraction(1, int(LONG)))])
        for word in ("", "2/4", "-0", "+1", "01", "3/1", "1/-2", "1/0", "0/5", "1.0", "1e3", "x", "-", "/", "1/", "/2",
                     "--1", "1_0", "\u0661", LONG + "9", "1/" + LONG + "9", "-" + LONG + "9"):
            for row in (f"pin n {word} 2", f"pin n 1 {word}", f"pin n {word} 2 fixed", f"pin n 1 2 roller {word} 1",
                        f"pin n 1 2 roller 1 {word}", f"lay p q {word} 0", f"lay p q 0 {word}",
                        f"lay p q 0 {word} 1 0 0", f"lay p q 0 0 1 {word} 0", f"lay p q 0 0 1 0 {word}"):
                self.assert_no_row(row)

    def test_many(self):
        piece = "piece p\npin n 0 0\nend\n"
        for many in (1, 2, 24):
            F = read_frame(piece + f"lay p q 0 0 {many} 1 0")
            self.assertEqual(F.pins(), [f"q{k}n" for k in range(many)])
        self.assertEqual(read_frame(piece + "lay p q 0 0 60 0 0").pins(), ["q0n"])
        for word in ("0", "61", "01", "-1", "+1", "1/2", "60/1", "", "x", "100", "\u0661", "1" * 61, "00"):
            self.assert_no_row(f"lay p q 0 0 {word} 0 0")

    def test_rollers_without_a_way(self):
        self.assert_no_row("pin n 1 2 roller 0 0")
        self.assertEqual(read_frame("pin n 1 2 roller 0 -1\npin o 2 2 roller -1 0").pins(), ["n", "o"])

    def test_a_row_ends_at_a_line_end_alone(self):
        for sign in ODD_SIGNS:
            with self.subTest(repr(sign)):
                self.assert_no_line(f"pin a 0 0{sign}pin b 1 1", 0)
                self.assert_no_line(f"pin a 0 0{sign}\npin b 1 1", 0)
                self.assert_no_line(f"pin a 0 0\n{sign}pin b 1 1", 1)
                self.assert_no_line(f"pin a 0 0\npin b 1 1{sign}", 1)
                self.assert_no_line(f"pin a 0 0\npin{sign}b 1 1", 1)
                self.assert_no_line(sign, 0)
        self.assert_no_line("pin a 0 0\r\npin b 1 1", 0)

    def test_line_ends_at_the_end_and_without_rows(self):
        self.assert_no_line("\n", 0)
        self.assert_no_line(TEXT + "\n", 6)
        self.assert_no_line("\n" + TEXT, 0)
        self.assert_no_line(PINS + "\n\nbar ab a b", 3)
        self.assert_no_line("pin a 0 0\n\n", 1)

    def test_things_that_are_no_text(self):
        for thing in (None, 0, 1, True, b"pin a 0 0", ["pin a 0 0"], ("pin a 0 0",), {}, Frame(), 1.5):
            self.assert_no_line(thing, 0)


class PiecesTest(Rows):
    def test_a_piece_within_a_piece(self):
        self.assert_no_line("piece a\npiece b\nend\nend", 1)
        self.assert_no_line("piece a\npin n 0 0\npiece a\nend", 2)
        self.assert_no_line("piece b\nend\npiece a\npiece b", 3)

    def test_ends_outside_of_pieces(self):
        self.assert_no_line("end", 0)
        self.assert_no_line("piece a\nend\nend", 2)
        self.assert_no_line("pin n 0 0\nend\npiece a", 1)

    def test_a_piece_s_name_twice(self):
        self.assert_no_line("piece a\nend\npiece a\nend", 2)
        self.assert_no_line("piece a\nend\npiece b\nend\npin n 0 0\npiece a\nend", 5)
        self.assertEqual(read_frame("pin a 0 0\npiece a\nend\npin b 1 0\nbar a a b\npiece b\nend").pins(), ["a", "b"])

    def test_lay_rows_of_pieces_that_aren_t_closed_above(self):
        for row in ("lay a p 0 0", "lay a p 0 0 2 1 0"):
            self.assert_no_line(row, 0)
            self.assert_no_line(f"{row}\npiece a\nend", 0)
            self.assert_no_line(f"piece a\n{row}\nend", 1)
            self.assert_no_line(f"piece a\npin n 0 0\n{row}", 2)
            self.assert_no_line(f"piece b\n{row}\nend\npiece a\nend", 1)
            self.assert_no_line(f"piece b\nend\n{row}\npiece a\nend", 2)
            self.assert_no_line(f"pin a 0 0\npiece b\nend\npiece c\n{row}\nend", 4)
            self.assertEqual(read_frame(f"piece a\nend\n{row}").pins(), [])
            self.assertEqual(read_frame(f"piece a\nend\npiece b\n{row}\nend\nlay b q 0 0").pins(), [])

    def test_the_last_piece_not_closed(self):
        self.assert_no_line("piece a", 1)
        self.assert_no_line("piece a\npin n 0 0\nbar n n n", 3)
        self.assert_no_line("piece a\nend\npiece b\nlay a p 0 0", 4)
        self.assert_no_line("piece a\nbar", 1)

    def test_no_line_goes_ahead_of_all_else(self):
        self.assert_no_line("pin a 0 0\npin a 0 0\npin", 2)
        self.assert_no_line("bar x a b\npin a 0 0\nend", 2)
        self.assert_no_line("bar x a b\npiece p\nbar x x x", 3)
        self.assert_no_line("pin a 0 0\nbar x a a\nlay p q 0 0\nx", 2)
        self.assert_no_line("\n".join([f"pin p{at} {at} 0" for at in range(25)]) + "\n", 25)
        self.assert_no_line("piece p\n" + "pin n 0 0\n" * 2 + "end\n" + "lay p q 0 0 60 0 0\n" * 20 + "lay", 24)
        self.assert_no_line("x\ny\nz", 0)

    def test_rows_of_pieces_that_are_not_laid_are_not_done(self):
        F = read_frame("piece a\nbar x y z\npin n 0 0\npin n 1 1\nend\npin o 0 0")
        self.assertEqual(F.pins(), ["o"])
        self.assert_refused(NoPin, {"pin": "y"}, read_frame, "piece a\nbar x y z\nend\nlay a p 0 0")
        self.assert_refused(PinThere, {"pin": "pn"}, read_frame, "piece a\npin n 0 0\npin n 1 1\nend\nlay a p 0 0")


class ShowTest(Checks, unittest.TestCase):
    def test_written_out(self):
        self.assertEqual(show_frame(triangle()), TEXT)
        self.assertEqual(show_frame(Frame()), "")
        F = frame_of([("p", Fraction(-1, 2), 3, Hold()), ("q", 0, 0, Fixed()), ("r", 7, 0, roller(-2, Fraction(1, 3)))],
                     [("x", "p", "q"), ("p", "r", "q")])
        self.assertEqual(show_frame(F), "pin p -1/2 3\npin q 0 0 fixed\npin r 7 0 roller -2 1/3\nbar x p q\nbar p r q")
        self.assertEqual(show_frame(frame_of([("a", 0, 0)])), "pin a 0 0")

    def test_a_roller_to_the_right_or_up_stays_one(self):
        F = frame_of([("a", 0, 0, roller(1, 0)), ("b", 1, 0, roller(0, 1))])
        self.assertEqual(show_frame(F), "pin a 0 0 roller 1 0\npin b 1 0 roller 0 1")

    def test_a_bar_taken_and_put_again(self):
        F = triangle()
        F.take_bar("ab")
        F.put_bar("ab", "b", "a")
        self.assertEqual(show_frame(F), PINS + "\nbar bc b c\nbar ca c a\nbar ab b a")
        self.assertEqual(snapshot(read_frame(show_frame(F))), snapshot(F))

    def test_shown_read_and_shown_again(self):
        for name, F in frames():
            if name != "odd_names":
                before = copy.deepcopy(snapshot(F))
                with self.subTest(name):
                    text = show_frame(F)
                    self.assertEqual(snapshot(read_frame(text)), before)
                    self.assertEqual(show_frame(read_frame(text)), text)
                    self.assertEqual(snapshot(F), before)

    def test_at_the_bounds(self):
        rng = random.Random(3)
        F = Frame()
        for at in range(24):
            x, y = [number(Fraction(rng.randint(1 - 10 ** 60, 10 ** 60 - 1), rng.randint(1, 10 ** 60 - 1)))
                    for axis in "xy"]
            F.put_pin("n" * 18 + f"{at:02}", x, y, rng.choice([None, Fixed(), roller(1, Fraction(1, 10 ** 59))]))
        for at in range(60):
            F.put_bar("b" * 18 + f"{at:02}", *rng.sample(F.pins(), 2))
        self.assertEqual(snapshot(read_frame(show_frame(F))), snapshot(F))

    def test_some_frames_whole(self):
        for make in (braced_square, slanted, long_places, crowd, lattice):
            rows = show_frame(make()).split("\n")
            self.assertEqual(len(rows), len(make().pins()) + len(make().bars()))
            self.assertEqual([row.split(" ")[1] for row in rows], make().pins() + make().bars())

    def test_names_that_are_no_words_are_shown_as_they_are(self):
        self.assertEqual(show_frame(frame_of([("A", 0, 0), ("b" * 30, 1, 0)], [("C", "A", "b" * 30)])),
                         f"pin A 0 0\npin {'b' * 30} 1 0\nbar C A {'b' * 30}")

    def test_names_of_arguments(self):
        for name, due in [("read_frame", "(text)"), ("show_frame", "(F)")]:
            self.assertEqual(str(inspect.signature(getattr(notes, name))), due)


if __name__ == "__main__":
    unittest.main()
