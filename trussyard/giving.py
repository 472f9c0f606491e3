"""Bars that give way: how a frame bends under a load, and the work that is stored in its bars."""

from trussyard.equations import check_bars, draw_rows, load_row, motion_from, pulls_and_pushes, signs_turned
from trussyard.errors import NoGrip
from trussyard.moves import lengthenings
from trussyard.ratios import NOUGHT, ONE, product_of, quotient_of, sum_of
from trussyard.solving import solve_rows, turned


def bend_of(F, grips, load):
    """("bent", pulls, pushes, moves), each pull being its grip times its lengthening, or ("moves", motion)."""
    loaded = load_row(F, load)
    firm = all_grips(F, grips)
    many = len(loaded)
    rows = bend_rows(F, firm)
    ways = len(rows) - many
    told = solve_rows(rows, [NOUGHT] * ways + loaded, len(rows))
    if told[0] == "paper":
        # The shares of the pairs are a motion that keeps the holds and on which its own pulls do no work: they are
        # nought, since each grip is above 0, and so no bar is lengthened.
        return ("moves", motion_from(F, told[1][ways:]))
    moves = motion_from(F, told[1][:many])
    pulls = gripped(firm, lengthenings(F, moves))
    pushes = pulls_and_pushes(F, told[1][many:])[1]
    return ("bent", pulls, pushes, moves)


def stored_of(F, grips, pulls):
    """The stored work of pulls."""
    firm = all_grips(F, grips)
    twice = NOUGHT
    for bar in F.bars():
        pull = pulls.get(bar, NOUGHT)
        twice = sum_of(twice, quotient_of(product_of(pull, pull), firm[bar]))
    return quotient_of(twice, (2, 1))


def all_grips(F, grips):
    """A dict from all bars to their grips; refused is a name that is no bar's, and a grip not above 0."""
    check_bars(F, grips)
    firm = {}
    for bar in F.bars():
        grip = grips.get(bar, ONE)
        if grip[0] <= 0:
            raise NoGrip(bar)
        firm[bar] = grip
    return firm


def gripped(firm, longer):
    """The pulls of bars that are lengthened so."""
    pulls = {}
    for bar, grip in firm.items():
        pulls[bar] = product_of(grip, longer[bar])
    return pulls


def bend_rows(F, firm):
    """A row for each way, whose product must be nought, and then for each pair, whose product must be the load there.

    The columns are the pairs, for the moves, and then the ways, for the pushes.
    """
    drawn = draw_rows(F)
    ways = len(drawn) - len(firm)
    # The rows of the ways have the fewest numbers, so what they settle is settled first.
    rows = [row + [NOUGHT] * ways for row in drawn[:ways]]
    stiff = stiff_rows(F, firm, drawn[ways:])
    for row, column in zip(stiff, turned(drawn[:ways], len(stiff))):
        rows.append(row + signs_turned(column))
    return rows


def stiff_rows(F, firm, bar_rows):
    """A row for each pair, whose product with moves is what the bars draw there by them, with the sign turned."""
    many = 2 * len(F.pins())
    rows = [[NOUGHT] * many for column in range(many)]
    for grip, row in zip(firm.values(), bar_rows):
        acts = [column for column in range(many) if row[column] != NOUGHT]
        for column in acts:
            drawn = product_of(grip, row[column])
            for place in acts:
                rows[column][place] = sum_of(rows[column][place], product_of(drawn, row[place]))
    return rows
