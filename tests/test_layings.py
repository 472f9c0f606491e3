"""Point 29: pieces laid into a frame, and all that is refused there."""

import random
import unittest
from fractions import Fraction

from trussyard.errors import BarThere, NoLength, NoPin, PinThere, TooMany, YardError
from trussyard.notes import read_frame
from yards import Checks, RIGHT, UP, fractions, pair, snapshot

CELL = "piece cell\npin a 0 0\npin b 1 0\nbar ab a b\nend\n"


def pieces(*rows):
    """A text of rows."""
    return "\n".join(rows)


def cell_of(*rows, name="p"):
    """The text of a piece."""
    return pieces(f"piece {name}", *rows, "end")


class LayingsTest(Checks, unittest.TestCase):
    def assert_frame(self, text, pins, bars=()):
        """The text tells these pins (name, x, y, ways) and bars (name, one, other)."""
        with self.subTest(text):
            due = ([(name, pair(x, y), list(ways)) for name, x, y, *ways in pins],
                   [(name, (one, other)) for name, one, other in bars])
            self.assertEqual(snapshot(read_frame(text)), due)

    def refused(self, error, fields, text):
        with self.subTest(text):
            self.assert_refused(error, fields, read_frame, text)

    def test_outside_of_pieces(self):
        self.assert_frame("pin a 1 2\npin b 3 4 fixed\nbar x a b",
                          [("a", 1, 2), ("b", 3, 4, RIGHT, UP)], [("x", "a", "b")])

    def test_a_piece_laid(self):
        self.assert_frame(CELL + "lay cell p 2 3", [("pa", 2, 3), ("pb", 3, 3)], [("pab", "pa", "pb")])
        self.assert_frame(CELL + "lay cell p -1/2 1/3\nlay cell q 7 7",
                          [("pa", Fraction(-1, 2), Fraction(1, 3)), ("pb", Fraction(1, 2), Fraction(1, 3)),
                           ("qa", 7, 7), ("qb", 8, 7)], [("pab", "pa", "pb"), ("qab", "qa", "qb")])

    def test_many_with_steps(self):
        self.assert_frame(CELL + "lay cell p 0 5 3 1 1/2",
                          [("p0a", 0, 5), ("p0b", 1, 5), ("p1a", 1, Fraction(11, 2)), ("p1b", 2, Fraction(11, 2)),
                           ("p2a", 2, 6), ("p2b", 3, 6)],
                          [("p0ab", "p0a", "p0b"), ("p1ab", "p1a", "p1b"), ("p2ab", "p2a", "p2b")])
        self.assert_frame(CELL + "lay cell p 0 0 1 0 0", [("p0a", 0, 0), ("p0b", 1, 0)], [("p0ab", "p0a", "p0b")])

    def test_steps_of_nought(self):
        self.assert_frame(CELL + "lay cell p 0 0 3 0 0", [("p0a", 0, 0), ("p0b", 1, 0)],
                          [("p0ab", "p0a", "p0b"), ("p1ab", "p0a", "p0b"), ("p2ab", "p0a", "p0b")])
        self.assert_frame(CELL + "lay cell p 0 0 2 1 0", [("p0a", 0, 0), ("p0b", 1, 0), ("p1b", 2, 0)],
                          [("p0ab", "p0a", "p0b"), ("p1ab", "p0b", "p1b")])
        self.assert_frame("piece p\npin n 0 0\nend\nlay p q 1 1 11 0 -1", [(f"q{k}n", 1, 1 - k) for k in range(11)])

    def test_pieces_within_pieces(self):
        two = cell_of("lay cell l 0 0", "pin t 5 1", "lay cell r 5 0", "bar up t ra", name="two")
        text = CELL + pieces(two, "lay two x 10 0", "lay two y 0 9 2 20 0")
        pins, bars = [], []
        for prefix, x, y in (("x", 10, 0), ("y0", 0, 9), ("y1", 20, 9)):
            pins.extend([(prefix + "la", x, y), (prefix + "lb", x + 1, y), (prefix + "t", x + 5, y + 1),
                         (prefix + "ra", x + 5, y), (prefix + "rb", x + 6, y)])
            bars.extend([(prefix + "lab", prefix + "la", prefix + "lb"), (prefix + "rab", prefix + "ra", prefix + "rb"),
                         (prefix + "up", prefix + "t", prefix + "ra")])
        self.assert_frame(text, pins, bars)

    def test_prefixes_and_numbers_are_put_together_in_order(self):
        text = pieces(cell_of("pin n 0 0", name="a"), cell_of("lay a b 1 0 2 1 0", name="c"),
                      cell_of("lay c d 0 1 2 0 10", name="e"), "lay e f 100 0 2 100 0", "bar x f1d0b1n f0d1b0n")
        self.assert_frame(text, [(f"f{i}d{j}b{k}n", 100 + 100 * i + 1 + k, 1 + 10 * j)
                                 for i in (0, 1) for j in (0, 1) for k in (0, 1)], [("x", "f1d0b1n", "f0d1b0n")])

    def test_further_own_names(self):
        self.assert_frame(CELL + "lay cell p 0 0\nlay cell q 5 0 2 5 0\nbar x pb q0a\nbar y q0b q1a",
                          [("pa", 0, 0), ("pb", 1, 0), ("q0a", 5, 0), ("q0b", 6, 0), ("q1a", 10, 0), ("q1b", 11, 0)],
                          [("pab", "pa", "pb"), ("q0ab", "q0a", "q0b"), ("q1ab", "q1a", "q1b"), ("x", "pb", "q0a"),
                           ("y", "q0b", "q1a")])
        # Within a piece they are without its own prefix.
        text = CELL + "piece two\nlay cell p 0 0\nlay cell q 5 0\nbar x pb qa\nend\nlay two z 0 0\nbar y zpa zqb"
        self.assert_frame(text, [("zpa", 0, 0), ("zpb", 1, 0), ("zqa", 5, 0), ("zqb", 6, 0)],
                          [("zpab", "zpa", "zpb"), ("zqab", "zqa", "zqb"), ("zx", "zpb", "zqa"), ("y", "zpa", "zqb")])

    def test_a_pin_outside_has_no_name_within(self):
        self.refused(NoPin, {"pin": "o"}, pieces("pin o 0 0", cell_of("pin n 1 0", "bar x o n"), "lay p q 0 0"))
        self.refused(NoPin, {"pin": "n"}, pieces(cell_of("pin n 1 0"), "lay p q 0 0", "pin o 9 9", "bar x n o"))
        self.refused(NoPin, {"pin": "q0n"}, pieces(cell_of("pin n 1 0"), "lay p q 0 0", "pin o 9 9", "bar x q0n o"))
        self.refused(NoPin, {"pin": "qn"}, pieces(cell_of("pin n 1 0"), "lay p q 0 0 1 0 0", "pin o 9 9", "bar x qn o"))
        self.refused(NoPin, {"pin": "n"}, pieces(cell_of("pin n 1 0"), cell_of("lay p q 0 0", "bar x n qn", name="r"),
                                                 "lay r s 0 0"))

    def test_pins_at_one_place_are_one_pin(self):
        self.assert_frame("pin a 0 0 fixed\npin b 0 0\npin c 1 0\npin d 0 0 roller 1 0\nbar x b c\nbar y c d",
                          [("a", 0, 0, RIGHT, UP), ("c", 1, 0)], [("x", "a", "c"), ("y", "c", "a")])
        self.assert_frame("pin a 0 0\npin b 0 0 fixed", [("a", 0, 0)])
        self.assert_frame("pin a 1/2 0 roller 1 2\npin b 1/2 0 roller 3 4", [("a", Fraction(1, 2), 0, pair(1, 2))])

    def test_laid_pins_at_one_place_have_a_name_in_each_laying(self):
        text = pieces("pin left 0 0 fixed", CELL + "lay cell p 0 0 3 1 0", "pin right 3 0 roller 0 1",
                      "bar x left right", "bar y p0a p2b", "bar z p0b p2a")
        self.assert_frame(text, [("left", 0, 0, RIGHT, UP), ("p0b", 1, 0), ("p1b", 2, 0), ("p2b", 3, 0)],
                          [("p0ab", "left", "p0b"), ("p1ab", "p0b", "p1b"), ("p2ab", "p1b", "p2b"),
                           ("x", "left", "p2b"), ("y", "left", "p2b"), ("z", "p0b", "p1b")])

    def test_the_first_hold_stays(self):
        text = pieces(cell_of("pin n 0 0 fixed"), cell_of("pin m 0 0 roller 1 1", name="r"), "lay r a 0 0",
                      "lay p b 0 0", "lay p c 1 0", "lay r d 1 0")
        self.assert_frame(text, [("am", 0, 0, pair(1, 1)), ("cn", 1, 0, RIGHT, UP)])

    def test_an_own_name_twice(self):
        self.refused(PinThere, {"pin": "a"}, "pin a 0 0\npin a 1 1")
        self.refused(PinThere, {"pin": "a"}, "pin a 0 0\npin a 0 0")
        self.refused(PinThere, {"pin": "b"}, "pin a 0 0\npin b 0 0\npin b 0 0")
        self.refused(PinThere, {"pin": "qn"}, pieces(cell_of("pin n 0 0", "pin n 1 0"), "lay p q 0 0"))
        self.refused(PinThere, {"pin": "q0n"}, pieces(cell_of("pin n 0 0", "pin n 1 0"), "lay p q 0 0 2 1 0"))
        text = pieces(cell_of("pin n 0 0", "pin n 1 0"), cell_of("lay p r 0 0", name="q"), "lay q s 0 0")
        self.refused(PinThere, {"pin": "srn"}, text)
        # One that only has the name, and was put by another laying.
        self.refused(PinThere, {"pin": "qn"}, pieces("pin o 0 0", cell_of("pin n 0 0", "pin n 1 0"), "lay p q 0 0"))

    def test_a_name_that_the_frame_has(self):
        laid = pieces(cell_of("pin n 5 5", name="q"), "lay p a 0 0", "lay q ab 0 0")
        self.refused(PinThere, {"pin": "abn"}, pieces(cell_of("pin bn 0 0"), laid))
        # At a place where a pin lies nothing is put, so nothing is refused, but the further own name is there already.
        self.refused(PinThere, {"pin": "abn"}, pieces(cell_of("pin bn 5 5"), laid))
        self.refused(PinThere, {"pin": "qn"}, pieces(cell_of("pin n 0 0"), "pin qn 1 1", "lay p q 0 0"))
        self.refused(PinThere, {"pin": "qn"}, pieces(cell_of("pin n 0 0"), "lay p q 0 0", "pin qn 1 1"))
        self.refused(PinThere, {"pin": "qn"}, pieces(cell_of("pin n 0 0"), "lay p q 0 0", "pin qn 0 0"))

    def test_further_own_names_twice(self):
        piece = cell_of("pin n 0 0", "pin m 1 0")
        self.refused(PinThere, {"pin": "qn"}, pieces(piece, "lay p q 0 0", "lay p q 0 0"))
        self.refused(PinThere, {"pin": "qm"}, pieces(piece, "pin qm 1 0", "lay p q 0 0"))
        # The first in the order in which the laying came to them.
        self.refused(PinThere, {"pin": "qn"}, pieces(piece, "pin qm 1 0", "pin qn 0 0", "lay p q 0 0"))
        self.refused(PinThere, {"pin": "q0n"}, pieces(piece, "pin q0m 1 0", "pin q0n 0 0", "lay p q 0 0 2 0 0"))
        self.refused(PinThere, {"pin": "q1m"}, pieces(piece, "pin q1m 1 0", "lay p q 0 0 2 0 0"))
        # By the prefix of the laying that would have the name, not of the one below.
        within = cell_of("pin qn 0 0", "lay p q 0 0", name="r")
        self.refused(PinThere, {"pin": "sqn"}, pieces(piece, within, "lay r s 0 0"))

    def test_further_own_names_come_behind_each_laying(self):
        # The second laying would be refused with NoPin, but the first one's name is there already.
        piece = cell_of("pin n 0 0", "bar x n n")
        self.refused(NoLength, {"bar": "q0x"}, pieces(piece, "pin q0n 0 0", "lay p q 0 0 2 0 0"))
        full = [f"pin n{at} {at} 0" for at in range(24)]
        self.refused(PinThere, {"pin": "q0n"}, pieces(*full, "pin q0n 0 0", cell_of("pin n 0 0"), "lay p q 0 0 2 0 50"))
        self.refused(TooMany, {}, pieces(*full, "pin q1n 0 0", cell_of("pin n 0 0"), "lay p q 0 0 2 0 50"))

    def test_bars_without_pins(self):
        self.refused(NoPin, {"pin": "a"}, "bar x a b")
        self.refused(NoPin, {"pin": "b"}, "pin a 0 0\nbar x a b")
        self.refused(NoPin, {"pin": "b"}, "pin a 0 0\nbar x b a")
        self.refused(NoPin, {"pin": "c"}, "pin a 0 0\nbar x c b")
        # By the own name, without the prefix, and ahead of all that putting refuses.
        self.refused(NoPin, {"pin": "b"}, pieces(cell_of("pin a 0 0", "bar x a b"), "lay p q 0 0"))
        self.refused(NoPin, {"pin": "z"}, "pin a 0 0\npin b 1 0\nbar x a b\nbar x a z")
        self.refused(NoPin, {"pin": "z"}, "pin a 0 0\npin b 1 0\nbar x a b\nbar x z z")
        many = [f"bar x{at} a b" for at in range(60)]
        self.refused(NoPin, {"pin": "z"}, pieces("pin a 0 0", "pin b 1 0", *many, "bar y a z"))

    def test_bars_that_there_are(self):
        self.refused(BarThere, {"bar": "x"}, "pin a 0 0\npin b 1 0\nbar x a b\nbar x b a")
        self.refused(BarThere, {"bar": "x"}, "pin a 0 0\npin b 1 0\nbar x a b\nbar x a a")
        self.refused(BarThere, {"bar": "pab"}, CELL + "lay cell p 0 0\npin c 9 9\nbar pab pa c")
        self.refused(BarThere, {"bar": "pab"}, CELL + "pin c 9 9\npin d 8 8\nbar pab c d\nlay cell p 0 0")
        # The bar's name is there twice, though no pin's is.
        text = pieces(cell_of("pin n 0 0", "pin m 1 0", "bar bx n m"),
                      cell_of("pin k 0 1", "pin l 1 1", "bar x k l", name="q"), "lay p a 0 0", "lay q ab 0 0")
        self.refused(BarThere, {"bar": "abx"}, text)

    def test_bars_without_length(self):
        self.refused(NoLength, {"bar": "x"}, "pin a 0 0\nbar x a a")
        self.refused(NoLength, {"bar": "x"}, "pin a 0 0\npin b 0 0\nbar x a b")
        self.refused(NoLength, {"bar": "qx"}, pieces(cell_of("pin a 0 0", "pin b 0 0", "bar x a b"), "lay p q 0 0"))
        self.refused(NoLength, {"bar": "y"}, CELL + "lay cell p 0 0\nlay cell q 1 0\nbar y pb qa")

    def test_too_many_pins(self):
        rows = [f"pin n{at} {at} 0" for at in range(24)]
        self.assertEqual(len(read_frame(pieces(*rows, "pin again 3 0")).pins()), 24)
        self.refused(TooMany, {}, pieces(*rows, "pin more 24 0"))
        self.refused(PinThere, {"pin": "n3"}, pieces(*rows, "pin n3 24 0"))
        self.refused(PinThere, {"pin": "again"}, pieces(*rows, "pin again 3 0", "pin again 24 0"))
        self.assertEqual(len(read_frame("piece p\npin n 0 0\nend\nlay p q 0 0 24 1 0").pins()), 24)
        self.refused(TooMany, {}, "piece p\npin n 0 0\nend\nlay p q 0 0 25 1 0")

    def test_too_many_bars(self):
        rows = ["pin a 0 0", "pin b 1 0", *[f"bar x{at} a b" for at in range(60)]]
        self.assertEqual(len(read_frame(pieces(*rows)).bars()), 60)
        self.refused(TooMany, {}, pieces(*rows, "bar more a b"))
        self.refused(BarThere, {"bar": "x59"}, pieces(*rows, "bar x59 a b"))
        self.refused(NoLength, {"bar": "more"}, pieces(*rows, "bar more a a"))
        self.assertEqual(len(read_frame(CELL + "lay cell p 0 0 60 0 0").bars()), 60)
        self.refused(TooMany, {}, CELL + "lay cell p 0 0 60 0 0\nlay cell q 0 0")

    def test_five_hundred_rows_are_none_too_many(self):
        # 8 times 60 layings of one row, 8 lay rows, and 12 rows to come.
        text = pieces(cell_of("pin n 0 0"), *[f"lay p q{at} 0 0 60 0 0" for at in range(8)])
        fill = [f"pin n{at} 0 0" for at in range(12)]
        self.assertEqual(read_frame(pieces(text, *fill)).pins(), ["q00n"])
        for row in ("pin more 0 0", "pin n0 0 0", "pin more 5 5", "bar x n0 n1", "bar x y z", "lay p r 0 0",
                    "lay p q 0 0"):
            self.refused(TooMany, {}, pieces(text, *fill, row))
        self.refused(PinThere, {"pin": "n0"}, pieces(text, *fill[:11], "pin n0 0 0"))
        self.refused(NoPin, {"pin": "y"}, pieces(text, *fill[:11], "bar x y z"))
        # A lay row that can be done, whose piece's row can't.
        self.refused(TooMany, {}, pieces(text, *fill[:11], "lay p r 0 0"))
        self.assertEqual(read_frame(pieces(text, *fill[:10], "lay p r 0 0")).pins(), ["q00n"])
        self.assertEqual(read_frame(pieces(cell_of(name="r"), text, *fill[:11], "lay r r 0 0 60 0 0")).pins(), ["q00n"])

    def test_bar_rows_count(self):
        text = pieces(cell_of("pin n 0 0"), *[f"lay p q{at} 0 0 60 0 0" for at in range(8)], "pin o 1 1")
        bars = [f"bar x{at} o q00n" for at in range(11)]
        self.assertEqual(len(read_frame(pieces(text, *bars)).bars()), 11)
        self.refused(TooMany, {}, pieces(text, *bars, "bar more o q00n"))
        self.refused(TooMany, {}, pieces(text, *bars, "bar more o o"))

    def test_piece_and_end_rows_and_rows_not_laid_don_t_count(self):
        text = pieces(cell_of("pin n 0 0"), *[f"lay p q{at} 0 0 60 0 0" for at in range(8)], *["pin o 1 1"],
                      *[cell_of("pin n 0 0", "bar x y z", name=f"r{at}") for at in range(10)],
                      *[f"pin n{at} 0 0" for at in range(11)])
        self.assertEqual(read_frame(text).pins(), ["q00n", "o"])

    def test_empty_pieces_many_times(self):
        text = pieces(cell_of(name="a"), *[cell_of(f"lay {below} x 0 0 7 1 0", name=above)
                                           for below, above in zip("abc", "bcd")], "lay d x 0 0 7 1 0")
        self.assertEqual(read_frame(text).pins(), [])
        self.refused(TooMany, {}, pieces(text, "lay d y 0 0 7 1 0"))

    def test_twenty_pieces_within_one_another(self):
        names = [f"p{at}" for at in range(20)]
        rows = [cell_of("pin n 1 0 fixed", name="p0")]
        for below, above in zip(names, names[1:]):
            rows.append(cell_of(f"lay {below} {above} 1/3 1", name=above))
        F = read_frame(pieces(*rows, "lay p19 z 0 0"))
        self.assertEqual(F.pins(), ["z" + "".join(reversed(names[1:])) + "n"])
        self.assertEqual(F.place(F.pins()[0]), pair(1 + Fraction(19, 3), 19))

    def test_against_another_reading(self):
        seen = {}
        for seed in range(2500):
            text = random_text(random.Random(seed))
            with self.subTest(text):
                told, due = answer(read_frame, text), Reading(text).answer()
                self.assertEqual(told, due)
                seen[told[0]] = seen.get(told[0], 0) + 1
        self.assertEqual(sorted(seen), ["BarThere", "NoLength", "NoPin", "PinThere", "TooMany", "frame"])
        self.assertGreater(min(seen.values()), 15)


def answer(ask, text):
    """What is told, or how it is refused."""
    try:
        F = ask(text)
    except YardError as error:
        return (type(error).__name__, *vars(error).values())
    return ("frame", [(pin, tuple(fractions(F.place(pin))), len(F.ways(pin))) for pin in F.pins()],
            [(bar, *F.ends(bar)) for bar in F.bars()])


def random_text(rng):
    """Pieces and rows that often meet in names and places."""
    rows, own = [], {}
    for piece in "pqrs"[:rng.randint(0, 4)]:
        names = []
        rows.extend([f"piece {piece}", *[random_row(rng, names, own) for row in range(rng.randint(1, 5))], "end"])
        own[piece] = names
    names = []
    rows.extend(random_row(rng, names, own) for row in range(rng.randint(2, 8)))
    return "\n".join(rows)


def random_row(rng, names, own):
    """A row behind which there are these own names; the closed pieces have their own ones."""
    x, y = rng.choice(["0", "1", "1/2", "-1", "3"]), rng.choice(["0", "2", "-1/3"])
    kind = rng.choice(["pin", "bar", "lay"])
    if kind == "lay" and own:
        piece, prefix = rng.choice(list(own)), rng.choice(["a", "b", "ab", "0", "d", "e", "f"])
        many = rng.choice([0, 0, 1, 2, 3, 5, 60])
        for k in range(many) if many else [""]:
            names.extend(f"{prefix}{k}{name}" for name in own[piece])
        return f"lay {piece} {prefix} {x} {y}" + (f" {many} {rng.choice(['0', '1', '3'])} 0" if many else "")
    if kind == "bar" and names:
        ends = [name[:20] for name in rng.sample(names + rng.choice([["z"], names]), 2)]
        return " ".join(["bar", rng.choice(["x", "y", "z", "u", "ax", "bx"]), *ends])
    names.append(rng.choice(["a", "b", "c", "d", "ab", "aa", "a0a", "b0c", "da"]))
    return f"pin {names[-1]} {x} {y}{rng.choice(['', ' fixed', ' roller 1 2'])}"


class Reading:
    """A text read in another way: all layings share one list of steps, and own names are kept as tuples."""

    def __init__(self, text):
        self.bodies, self.steps, self.pins, self.bars = {"": []}, 0, [], []
        within = ""
        for row in text.split("\n"):
            words = row.split(" ")
            if words[0] == "piece":
                within = words[1]
                self.bodies[within] = []
            elif words[0] == "end":
                within = ""
            else:
                self.bodies[within].append(words)

    def answer(self):
        try:
            self.lay("", "", Fraction(0), Fraction(0))
        except Refused as refused:
            return refused.args
        return ("frame", [(name, spot, ways) for name, spot, ways in self.pins], self.bars)

    def lay(self, body, prefix, x, y):
        """Told are tuples (own name, pin)."""
        own = []
        for words in self.bodies[body]:
            self.steps += 1
            if self.steps > 500:
                raise Refused("TooMany")
            if words[0] == "pin":
                self.pin(own, words, prefix, x + Fraction(words[2]), y + Fraction(words[3]))
            elif words[0] == "bar":
                self.bar(own, words, prefix)
            else:
                for k in range(int(words[5])) if len(words) > 5 else [None]:
                    more = words[2] + ("" if k is None else str(k))
                    far = [Fraction(0), Fraction(0)] if k is None else [k * Fraction(step) for step in words[6:]]
                    below = self.lay(words[1], prefix + more, x + Fraction(words[3]) + far[0],
                                     y + Fraction(words[4]) + far[1])
                    for name, pin in below:
                        if more + name in dict(own):
                            raise Refused("PinThere", prefix + more + name)
                        own.append((more + name, pin))
        return own

    def pin(self, own, words, prefix, x, y):
        if words[1] in dict(own):
            raise Refused("PinThere", prefix + words[1])
        there = [name for name, spot, ways in self.pins if spot == (x, y)]
        if not there:
            there = [prefix + words[1]]
            if there[0] in [name for name, spot, ways in self.pins]:
                raise Refused("PinThere", there[0])
            if len(self.pins) == 24:
                raise Refused("TooMany")
            self.pins.append((there[0], (x, y), {4: 0, 5: 2, 7: 1}[len(words)]))
        own.append((words[1], there[0]))

    def bar(self, own, words, prefix):
        for name in words[2:]:
            if name not in dict(own):
                raise Refused("NoPin", name)
        one, other = [dict(own)[name] for name in words[2:]]
        if prefix + words[1] in [bar for bar, *ends in self.bars]:
            raise Refused("BarThere", prefix + words[1])
        if one == other:
            raise Refused("NoLength", prefix + words[1])
        if len(self.bars) == 60:
            raise Refused("TooMany")
        self.bars.append((prefix + words[1], one, other))


class Refused(Exception):
    """What Reading refuses."""


if __name__ == "__main__":
    unittest.main()
