"""Pieces laid into a frame.

A row is here the list of its words' values: ["pin", name, x, y] with nothing, "fixed", or "roller" and two numbers
behind it; ["bar", name, one, other]; or ["lay", piece, prefix, x, y] with nothing, or many and two numbers behind it.
"""

from trussyard.errors import NoPin, PinThere, TooMany
from trussyard.frames import Frame
from trussyard.holds import Fixed, Roller
from trussyard.moves import NO_MOVE, pair_sum, stretched

MOST_ROWS = 500


class Ground:
    """What all layings share: the frame, the pieces that may be laid, and how many rows are done."""

    def __init__(self, pieces):
        self.frame = Frame()
        self.pieces = pieces
        self.done = 0

    def count_row(self):
        """Counts a row that is about to be done; refused is one too many."""
        if self.done >= MOST_ROWS:
            raise TooMany("at most 500 rows are done")
        self.done += 1


class Laying:
    """One laying of a piece: its prefix, the spot where it is laid, and the pins by their own names in it."""

    def __init__(self, prefix, spot):
        self.prefix = prefix
        self.spot = spot
        self.own = {}

    def full_name(self, name):
        """A name as the frame has it."""
        return self.prefix + name

    def check_new(self, name):
        """Refuses an own name that there already is."""
        if name in self.own:
            raise PinThere(self.full_name(name))

    def name_pin(self, name, pin):
        """Gives a pin this own name."""
        self.check_new(name)
        self.own[name] = pin

    def own_pin(self, name):
        """The pin with this own name."""
        if name not in self.own:
            raise NoPin(name)
        return self.own[name]


def laid_frame(rows, pieces):
    """The frame that rows make, where pieces, a dict from names to lists of rows, may be laid."""
    ground = Ground(pieces)
    lay_rows(ground, rows, "", NO_MOVE)
    return ground.frame


def lay_rows(ground, rows, prefix, spot):
    """Does rows with this prefix at this spot, and tells the laying."""
    laying = Laying(prefix, spot)
    for row in rows:
        ground.count_row()
        if row[0] == "pin":
            lay_pin(ground, laying, row)
        elif row[0] == "bar":
            lay_bar(ground, laying, row)
        else:
            lay_piece(ground, laying, row)
    return laying


def lay_pin(ground, laying, row):
    """Puts a pin, or gives the pin that already lies there this own name, too."""
    # Asked here too, since it goes ahead of all that putting refuses.
    laying.check_new(row[1])
    spot = pair_sum(laying.spot, (row[2], row[3]))
    pin = pin_at(ground.frame, spot)
    if pin is None:
        pin = laying.full_name(row[1])
        ground.frame.put_pin(pin, spot[0], spot[1], hold_from(row[4:]))
    laying.name_pin(row[1], pin)


def lay_bar(ground, laying, row):
    """Puts a bar between the pins with these own names."""
    one = laying.own_pin(row[2])
    other = laying.own_pin(row[3])
    ground.frame.put_bar(laying.full_name(row[1]), one, other)


def lay_piece(ground, laying, row):
    """Lays a piece as often as the row tells, and gives its pins further own names."""
    for prefix, apart in prefixes_and_spots(row):
        spot = pair_sum(laying.spot, apart)
        below = lay_rows(ground, ground.pieces[row[1]], laying.full_name(prefix), spot)
        for name, pin in below.own.items():
            laying.name_pin(prefix + name, pin)


def prefixes_and_spots(row):
    """Tuples of a prefix and a spot, one for each time that a lay row lays its piece, as the row tells them."""
    first = (row[3], row[4])
    if len(row) == 5:
        return [(row[2], first)]
    step = (row[6], row[7])
    return [(row[2] + str(k), pair_sum(first, stretched((k, 1), step))) for k in range(row[5])]


def pin_at(F, spot):
    """The pin that lies at the spot, or None."""
    for pin in F.pins():
        if F.place(pin) == spot:
            return pin
    return None


def hold_from(values):
    """The hold that stands behind a pin row's place, None for a plain one."""
    if values == []:
        return None
    return Fixed() if len(values) == 1 else Roller(values[1], values[2])
