"""The texts of frames."""

from trussyard.errors import NoLine
from trussyard.figures import show_ratio
from trussyard.layings import laid_frame
from trussyard.ratios import NOUGHT
from trussyard.words import read_row

FORMS = (
    "pin NAME NUMBER NUMBER",
    "pin NAME NUMBER NUMBER fixed",
    "pin NAME NUMBER NUMBER roller NUMBER NUMBER",
    "bar NAME NAME NAME",
    "piece NAME",
    "end",
    "lay NAME NAME NUMBER NUMBER",
    "lay NAME NAME NUMBER NUMBER MANY NUMBER NUMBER",
)


class Sheet:
    """The rows read so far: those of each piece, and those outside of pieces."""

    def __init__(self):
        self.outside = []
        self.pieces = {}
        # The piece that isn't closed, by its name; only one can be.
        self.current = None

    def may_stand(self, values):
        """True where a row of these values may come next."""
        if values[0] == "piece":
            return self.current is None and values[1] not in self.pieces
        if values[0] == "end":
            return self.current is not None
        if values[0] == "lay":
            return values[1] in self.pieces and values[1] != self.current
        return values[4:] != ["roller", NOUGHT, NOUGHT]

    def keep(self, values):
        """Keeps a row that may stand here."""
        if values[0] == "piece":
            self.current = values[1]
            self.pieces[self.current] = []
        elif values[0] == "end":
            self.current = None
        elif self.current is None:
            self.outside.append(values)
        else:
            self.pieces[self.current].append(values)


def read_frame(text):
    """The frame that a text tells."""
    if not isinstance(text, str):
        raise NoLine(0)
    rows = [] if text == "" else text.split("\n")
    # All rows are read ahead of all that is done, so that a row that is none goes ahead of every other refusal.
    sheet = Sheet()
    for at, row in enumerate(rows):
        values = read_row(FORMS, row)
        if values is None or not sheet.may_stand(values):
            raise NoLine(at)
        sheet.keep(values)
    if sheet.current is not None:
        raise NoLine(len(rows))
    return laid_frame(sheet.outside, sheet.pieces)


def show_frame(F):
    """The text of a frame."""
    rows = []
    for pin in F.pins():
        words = ["pin", pin] + pair_words(F.place(pin)) + hold_words(F.ways(pin))
        rows.append(" ".join(words))
    for bar in F.bars():
        two = F.ends(bar)
        rows.append(" ".join(["bar", bar, two[0], two[1]]))
    return "\n".join(rows)


def pair_words(two):
    """The texts of two numbers."""
    return [show_ratio(two[0]), show_ratio(two[1])]


def hold_words(ways):
    """What a pin row tells of a hold with these ways."""
    if len(ways) == 2:
        return ["fixed"]
    return ["roller"] + pair_words(ways[0]) if len(ways) == 1 else []
