"""Which bars are to spare, and by what forces; which are needed, and by what motions."""

from trussyard.equations import draw_rows, motion_from, pulls_and_pushes, signs_turned
from trussyard.solving import needed_columns, spare_columns, turned


def spares_of(F):
    """A dict from the spare bars to tuples (pulls, pushes), their own forces."""
    rows = draw_rows(F)
    bars = F.bars()
    ways = len(rows) - len(bars)
    spares = {}
    # The ways stand ahead of the bars and are never spare: those of one pin are unlike, and no two pins share one.
    for column, numbers in spare_columns(turned(rows, 2 * len(F.pins())), len(rows)).items():
        spares[bars[column - ways]] = pulls_and_pushes(F, numbers)
    return spares


def needs_of(F):
    """A dict from the needed bars to motions that lengthen them and no other needed bar."""
    rows = draw_rows(F)
    bars = F.bars()
    ways = len(rows) - len(bars)
    needs = {}
    for column, shares in needed_columns(turned(rows, 2 * len(F.pins())), len(rows)).items():
        if column >= ways:
            # A motion's product with a bar's row is the lengthening with its sign turned.
            needs[bars[column - ways]] = motion_from(F, signs_turned(shares))
    return needs
