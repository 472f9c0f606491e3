"""Rest or motion: what a frame does under a load."""

from trussyard.equations import draw_rows, load_row, motion_from, pulls_and_pushes
from trussyard.ratios import NOUGHT, ONE
from trussyard.solving import solve_rows


def rest_of(F, load):
    """("rest", pulls, pushes) that keep rest under the load, or ("moves", motion) on which it does work 1."""
    drawn = draw_rows(F)
    # Asked for is the motion; the paper that there is none has the load with a share of 1, held up by the others.
    rows = drawn + [load_row(F, load)]
    due = [NOUGHT] * len(drawn) + [ONE]
    told = solve_rows(rows, due, 2 * len(F.pins()))
    if told[0] == "solved":
        return ("moves", motion_from(F, told[1]))
    forces = pulls_and_pushes(F, told[1][:len(drawn)])
    return ("rest", forces[0], forces[1])
