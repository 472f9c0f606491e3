"""What moves in a frame and what stays, and the frame's counts."""

from trussyard.equations import draw_rows, motion_from, pairs_of, pulls_and_pushes
from trussyard.solving import needed_columns, spare_columns
from trussyard.spares import spares_of


def motions_of(F):
    """A dict from the free pairs (pin, axis) to own motions."""
    pairs = pairs_of(F)
    motions = {}
    for column, numbers in spare_columns(draw_rows(F), len(pairs)).items():
        motions[pairs[column]] = motion_from(F, numbers)
    return motions


def stays_of(F):
    """A dict from the pairs (pin, axis) that stay to tuples (pulls, pushes), whose forces act there."""
    pairs = pairs_of(F)
    stays = {}
    for column, shares in needed_columns(draw_rows(F), len(pairs)).items():
        stays[pairs[column]] = pulls_and_pushes(F, shares)
    return stays


def counts_of(F):
    """How many pins, ways, bars, spare bars and free pairs there are."""
    ways = sum([len(F.ways(pin)) for pin in F.pins()])
    return (len(F.pins()), ways, len(F.bars()), len(spares_of(F)), len(motions_of(F)))
