"""What the tests share: frames to ask about, and the document's sums reckoned anew with Python's own fractions."""

import math
import random
from fractions import Fraction

from trussyard.frames import Frame
from trussyard.holds import Fixed, Hold, Roller

NOUGHT = (0, 1)
ONE = (1, 1)
HALF = (1, 2)
RIGHT = ((1, 1), (0, 1))
UP = ((0, 1), (1, 1))


def whole(top):
    return (top, 1)


def number(fraction):
    return (Fraction(fraction).numerator, Fraction(fraction).denominator)


def numbers(values):
    return [number(value) for value in values]


def fraction(told):
    return Fraction(told[0], told[1])


def fractions(told):
    return [fraction(one) for one in told]


def pair(x, y):
    return (number(x), number(y))


def long_number(rng, figures=12):
    return number(Fraction(rng.randint(-10 ** figures, 10 ** figures), rng.randint(1, 10 ** figures)))


def small_number(rng):
    return number(Fraction(rng.randint(-5, 5), rng.choice([1, 1, 1, 2, 3])))


# Frames

def frame_of(pins, bars=()):
    """A frame of rows (name, x, y) or (name, x, y, hold), and of rows (name, one, other)."""
    F = Frame()
    for row in pins:
        F.put_pin(row[0], number(row[1]), number(row[2]), *row[3:])
    for name, one, other in bars:
        F.put_bar(name, one, other)
    return F


def roller(x, y):
    return Roller(number(x), number(y))


TRIANGLE = [("a", 0, 0, Fixed()), ("b", 4, 0, roller(0, 1)), ("c", 1, 3)]
SIDES = [("ab", "a", "b"), ("bc", "b", "c"), ("ca", "c", "a")]
SQUARE = [("a", 0, 0, Fixed()), ("b", 1, 0, roller(0, 1)), ("c", 1, 1), ("d", 0, 1)]
EDGES = [("ab", "a", "b"), ("bc", "b", "c"), ("cd", "c", "d"), ("da", "d", "a")]


def triangle():
    return frame_of(TRIANGLE, SIDES)


def square():
    """It moves: it has no diagonal."""
    return frame_of(SQUARE, EDGES)


def braced_square():
    """It has one bar more than it needs."""
    return frame_of(SQUARE, EDGES + [("ac", "a", "c"), ("bd", "b", "d")])


def in_line():
    """Its middle pin can go up and down, though it looks held."""
    return frame_of([("a", 0, 0, Fixed()), ("b", 1, 0), ("c", 2, 0, Fixed())], [("one", "a", "b"), ("two", "b", "c")])


def loose_line():
    return frame_of([("a", 0, 0), ("b", 1, 1), ("c", 3, 3)], [("ab", "a", "b"), ("bc", "b", "c"), ("ac", "a", "c")])


def twins():
    return frame_of(TRIANGLE, SIDES + [("ab2", "a", "b"), ("ba", "b", "a"), ("ca2", "c", "a")])


def odd_names():
    pins = [("", 0, 0, Fixed()), ("A", 2, 0, roller(1, 2)), ("a", 2, 2), ("aa", 0, 1), ("a b", 5, 5)]
    bars = [("a", "", "A"), ("", "A", "a"), ("A", "aa", "a"), ("aa", "aa", ""), ("x", "A", "aa")]
    return frame_of(pins, bars)


def slanted():
    """Broken places, and rollers that go aslant."""
    pins = [("p", Fraction(1, 3), Fraction(-2, 7), roller(Fraction(3, 5), -1)), ("q", Fraction(9, 2), 0, roller(2, 1)),
            ("r", 1, Fraction(22, 7), roller(-1, Fraction(1, 9))), ("s", -3, Fraction(5, 4))]
    bars = [("pq", "p", "q"), ("rq", "r", "q"), ("pr", "p", "r"), ("sp", "s", "p"), ("rs", "r", "s")]
    return frame_of(pins, bars)


def long_places():
    """Places of some dozen figures over other bottoms."""
    rng = random.Random(5)
    F = Frame()
    for at, hold in enumerate([Fixed(), Hold(), roller(3, -7), None, None]):
        F.put_pin(f"p{at}", long_number(rng), long_number(rng, 14), hold)
    for at, (one, other) in enumerate([(0, 1), (2, 1), (3, 0), (4, 3), (1, 4), (0, 4), (3, 1), (2, 4), (2, 3)]):
        F.put_bar(f"b{at}", f"p{one}", f"p{other}")
    return F


def crowd():
    """Sixty bars between three pins."""
    F = frame_of([("a", 0, 0, roller(1, 1)), ("b", 3, 1), ("c", 1, 2, roller(0, 1))])
    ends = [("a", "b"), ("c", "b"), ("b", "a"), ("c", "a"), ("b", "c")]
    for at in range(60):
        F.put_bar(str(at), *ends[at % 5 if at < 50 else 0])
    return F


def lattice(bars=60):
    """Twenty-four pins in two rows, on a fixed hold and a roller, with at most sixty bars."""
    F = Frame()
    for at in range(12):
        F.put_pin(f"low{at}", whole(at), whole(0), Fixed() if at == 0 else roller(0, 1) if at == 11 else None)
        F.put_pin(f"high{at}", whole(at), whole(1))
    ends = []
    for at in range(12):
        ends.append((f"low{at}", f"high{at}"))
    for at in range(11):
        ends.extend([(f"low{at}", f"low{at + 1}"), (f"high{at}", f"high{at + 1}"), (f"low{at}", f"high{at + 1}")])
    for at in range(11):
        ends.append((f"high{at}", f"low{at + 1}"))
    ends.extend([("low0", "high11"), ("high0", "low11"), ("low0", "low2"), ("low1", "low3")])
    for at, (one, other) in enumerate(ends[:bars]):
        F.put_bar(f"b{at}", one, other)
    return F


def changed():
    """Behind a bar that was taken and put again, and a pin that was taken and put elsewhere with another hold."""
    F = braced_square()
    F.take_bar("ab")
    F.put_bar("ab", "b", "a")
    for bar in ("bc", "cd", "ac"):
        F.take_bar(bar)
    F.take_pin("c")
    F.put_pin("c", whole(2), HALF, roller(1, -1))
    F.put_bar("ac", "c", "a")
    F.put_bar("bc", "b", "c")
    return F


def random_frame(seed):
    """Few pins, any holds, any bars, twins among them."""
    rng = random.Random(seed)
    spots = rng.sample([(x, y) for x in range(4) for y in range(4)], rng.randint(1, 7))
    F = Frame()
    for at, (x, y) in enumerate(spots):
        way = rng.choice([(1, 0), (0, 1), (1, 1), (-2, 3), (Fraction(1, 2), Fraction(-1, 3))])
        hold = rng.choice([None, None, Hold(), roller(*way), roller(*way), Fixed()])
        F.put_pin(f"p{at}", number(Fraction(x, rng.choice([1, 1, 3]))), number(Fraction(y * 7 + at, 7)), hold)
    if len(spots) > 1:
        for at in range(rng.randint(0, 2 * len(spots) + 2)):
            F.put_bar(f"b{at}", *rng.sample(F.pins(), 2))
    return F


def frames():
    """Rows (name, frame): all the frames to ask about, made anew."""
    makers = [triangle, square, braced_square, in_line, loose_line, twins, odd_names, slanted, long_places, crowd,
              lattice, changed]
    rows = [
        ("no pins", Frame()),
        ("a plain pin", frame_of([("a", 1, 2)])),
        ("a pin on a roller", frame_of([("a", 1, 2, roller(1, 2))])),
        ("a fixed pin", frame_of([("a", 1, 2, Fixed())])),
        ("three pins without bars", frame_of([("a", 0, 0, Fixed()), ("b", 1, 0), ("c", 2, 5, roller(2, -3))])),
        ("a bar alone", frame_of([("a", 0, 0), ("b", 3, 4)], [("ab", "a", "b")])),
        ("a bar between fixed pins", frame_of([("a", 0, 0, Fixed()), ("b", 3, 4, Fixed())], [("ab", "b", "a")])),
        ("a lattice with nothing to spare", lattice(45)),
        ("a lattice that moves", lattice(40)),
    ]
    rows.extend([(make.__name__, make()) for make in makers])
    rows.extend([(f"random {seed}", random_frame(seed)) for seed in range(40)])
    return rows


def snapshot(F):
    """All that a frame tells of itself."""
    return ([(pin, F.place(pin), F.ways(pin)) for pin in F.pins()], [(bar, F.ends(bar)) for bar in F.bars()])


def random_load(rng, F, make=small_number):
    """A load that may leave out pins, in any order."""
    pins = rng.sample(F.pins(), rng.randint(0, len(F.pins())))
    return {pin: (make(rng), make(rng)) for pin in pins}


def random_forces(rng, F, make=small_number):
    """Pulls and pushes that may leave out bars and pins, in any order."""
    bars = rng.sample(F.bars(), rng.randint(0, len(F.bars())))
    pins = rng.sample(F.pins(), rng.randint(0, len(F.pins())))
    return {bar: make(rng) for bar in bars}, {pin: [make(rng) for way in F.ways(pin)] for pin in pins}


def borne_load(rng, F, make=small_number):
    """A load that random forces bear, pins in any order."""
    forces = forces_due(F, *random_forces(rng, F, make))
    return {pin: pair(*[-part for part in forces[pin]]) for pin in rng.sample(F.pins(), len(F.pins()))}


def grip_number(rng):
    """A number above 0: of nine figures, 1 by as many, or near 1."""
    nine = rng.randint(10 ** 8, 10 ** 9 - 1)
    return rng.choice([(nine, 1), (1, nine), number(Fraction(rng.randint(1, 9), rng.randint(1, 9)))])


def random_grips(rng, F, make=grip_number):
    """Grips that may leave out bars, in any order."""
    return {bar: make(rng) for bar in rng.sample(F.bars(), rng.randint(0, len(F.bars())))}


def random_bounds(rng, F, make=grip_number):
    """Bounds of all bars, in any order, some of them nought."""
    bounds = {}
    for bar in rng.sample(F.bars(), len(F.bars())):
        low, high = [NOUGHT if rng.random() < 0.2 else make(rng) for bound in (0, 1)]
        bounds[bar] = ((-low[0], low[1]), high)
    return bounds


def times(factor, load):
    """A load, a factor times."""
    return {pin: pair(*[factor * part for part in fractions(two)]) for pin, two in load.items()}


def both_loads(one, other):
    """Two loads at once."""
    pins = list(one) + [pin for pin in other if pin not in one]
    return {pin: pair(*[here + there for here, there in zip(move_at(one, pin), move_at(other, pin))]) for pin in pins}


# The document's sums, in fractions

def arm(F, bar):
    one, other = F.ends(bar)
    return [fraction(there) - fraction(here) for here, there in zip(F.place(one), F.place(other))]


def forces_due(F, pulls, pushes):
    """Point 9: from all pins to lists of two fractions."""
    due = {pin: [Fraction(0), Fraction(0)] for pin in F.pins()}
    for bar in F.bars():
        one, other = F.ends(bar)
        pull = fraction(pulls.get(bar, NOUGHT))
        for axis, part in enumerate(arm(F, bar)):
            due[one][axis] += pull * part
            due[other][axis] -= pull * part
    for pin in F.pins():
        for push, way in zip(pushes.get(pin, []), F.ways(pin)):
            for axis in (0, 1):
                due[pin][axis] += fraction(push) * fraction(way[axis])
    return due


def move_at(motion, pin):
    return fractions(motion.get(pin, (NOUGHT, NOUGHT)))


def lengthenings_due(F, motion):
    """Point 11: from all bars to fractions."""
    due = {}
    for bar in F.bars():
        here, there = [move_at(motion, pin) for pin in F.ends(bar)]
        due[bar] = sum(part * (there[axis] - here[axis]) for axis, part in enumerate(arm(F, bar)))
    return due


def slips_due(F, motion):
    """Point 11: from all pins to lists of fractions."""
    return {pin: [sum(fraction(part) * part_of_move for part, part_of_move in zip(way, move_at(motion, pin)))
                  for way in F.ways(pin)] for pin in F.pins()}


def work_due(load, motion):
    """Point 11: a fraction."""
    return sum((fraction(part) * part_of_move for pin in load
                for part, part_of_move in zip(load[pin], move_at(motion, pin))), Fraction(0))


def stored_due(F, grips, pulls):
    """Point 22: a fraction."""
    return sum((fraction(pulls.get(bar, NOUGHT)) ** 2 / fraction(grips.get(bar, ONE)) / 2 for bar in F.bars()),
               Fraction(0))


def price_due(F, bounds, motion):
    """Point 26: a fraction."""
    return sum((longer * fraction(bounds[bar][1] if longer > 0 else bounds[bar][0])
                for bar, longer in lengthenings_due(F, motion).items()), Fraction(0))


# A desk's answers, read back

def words_of(text):
    return text.split(" ") if text else []


def read_pulls(text):
    return {bar: number(Fraction(pull)) for bar, pull in [word.split("=") for word in words_of(text)]}


def read_motion(text):
    return {pin: tuple(number(Fraction(part)) for part in two.split(","))
            for pin, two in [word.split("=") for word in words_of(text)]}


def read_pushes(F, text):
    """All pins, those without ways among them."""
    told = {pin: [number(Fraction(part)) for part in some.split(",")]
            for pin, some in [word.split(":") for word in words_of(text)]}
    return {pin: told.get(pin, []) for pin in F.pins()}


# What a told thing must be

class Checks:
    """Checks to be mixed into a TestCase."""

    def assert_number(self, told, due=None):
        """Told is a number of the right kinds, in lowest terms, and the fraction due if one is told."""
        self.assertIs(type(told), tuple)
        self.assertEqual([type(part) for part in told], [int, int])
        self.assertGreaterEqual(told[1], 1)
        self.assertEqual(math.gcd(told[0], told[1]), 1)
        if due is not None:
            self.assertEqual(fraction(told), due)

    def assert_numbers(self, told, many):
        self.assertIs(type(told), list)
        self.assertEqual(len(told), many)
        for one in told:
            self.assert_number(one)

    def assert_pairs(self, F, told):
        """Told is a dict from all pins, in order, to tuples of two numbers."""
        self.assertIs(type(told), dict)
        self.assertEqual(list(told), F.pins())
        for two in told.values():
            self.assertIs(type(two), tuple)
            self.assertEqual(len(two), 2)
            for one in two:
                self.assert_number(one)

    def assert_pulls(self, told, bars):
        self.assertIs(type(told), dict)
        self.assertEqual(list(told), bars)
        for one in told.values():
            self.assert_number(one)

    def assert_pushes(self, F, told):
        self.assertIs(type(told), dict)
        self.assertEqual(list(told), F.pins())
        for pin, pushes in told.items():
            self.assert_numbers(pushes, len(F.ways(pin)))

    def assert_keeps_rest(self, F, pulls, pushes, load):
        """Point 12: told pulls and pushes keep rest under the load."""
        self.assert_pulls(pulls, F.bars())
        self.assert_pushes(F, pushes)
        forces = forces_due(F, pulls, pushes)
        for pin in F.pins():
            self.assertEqual([force + there for force, there in zip(forces[pin], move_at(load, pin))], [0, 0])

    def assert_keeps_holds(self, F, motion):
        """Point 11: a told motion keeps the holds."""
        self.assert_pairs(F, motion)
        for slipped in slips_due(F, motion).values():
            self.assertTrue(all(slip == 0 for slip in slipped))

    def assert_own_motion(self, F, motion):
        """Point 17: a told motion keeps the holds and lengthens no bar."""
        self.assert_keeps_holds(F, motion)
        self.assertTrue(all(longer == 0 for longer in lengthenings_due(F, motion).values()))

    def assert_refused(self, error, fields, ask, *words):
        """Asking is refused with just this error, with these fields."""
        with self.assertRaises(error) as taken:
            ask(*words)
        self.assertIs(type(taken.exception), error)
        for field, value in fields.items():
            self.assertEqual(getattr(taken.exception, field), value)
