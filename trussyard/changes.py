"""What it would do to a frame to put a bar in or to take one out."""

from trussyard.equations import bar_row, draw_rows, motion_from, pulls_and_pushes, signs_turned
from trussyard.errors import NoBar
from trussyard.ratios import NOUGHT
from trussyard.solving import solve_rows


def would_put(F, name, one, other):
    """("stiffer", motion) that lengthens the new bar by 1, or ("spare", pulls, pushes) with 1 in it."""
    F.check_bar(name, one, other)
    rows = draw_rows(F) + [bar_row(F, one, other)]
    told = stretch_of(F, rows, len(rows) - 1)
    if told[0] == "solved":
        return ("stiffer", motion_from(F, told[1]))
    own = signs_turned(told[1])
    forces = pulls_and_pushes(F, own[:-1])
    pulls = forces[0]
    pulls[name] = own[-1]
    return ("spare", pulls, forces[1])


def would_take(F, name):
    """("looser", motion) that lengthens this bar alone, by 1, or ("less", pulls, pushes) with 1 in it."""
    bars = F.bars()
    if name not in bars:
        raise NoBar(name)
    rows = draw_rows(F)
    told = stretch_of(F, rows, len(rows) - len(bars) + bars.index(name))
    if told[0] == "solved":
        return ("looser", motion_from(F, told[1]))
    forces = pulls_and_pushes(F, signs_turned(told[1]))
    return ("less", forces[0], forces[1])


def stretch_of(F, rows, at):
    """The rows solved for a motion that keeps the holds, and lengthens the bar of the row at by 1 and no other bar.

    Where there is none, the paper has a share of -1 for that bar, and mixes the rows to nought.
    """
    due = [NOUGHT] * len(rows)
    # A motion's product with a bar's row is the lengthening with its sign turned.
    due[at] = (-1, 1)
    return solve_rows(rows, due, 2 * len(F.pins()))
