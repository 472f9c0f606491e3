"""The greatest multiple of a load that the bounds of bars let through, and the prices of motions."""

from trussyard.equations import check_bars, draw_rows, load_row, motion_from, pulls_and_pushes, signs_turned
from trussyard.errors import NoBound
from trussyard.moves import lengthenings
from trussyard.prices import most_of
from trussyard.ratios import NOUGHT, ONE, difference_of, product_of, sum_of
from trussyard.solving import mixed_rows, solve_rows, spare_columns, turned


def greatest_of(F, bounds, load):
    """("most", multiple, pulls, pushes, motion), or ("endless", pushes) where the holds bear the load alone."""
    loaded = load_row(F, load)
    lows_and_highs = all_bounds(F, bounds)
    drawn = draw_rows(F)
    ways = len(drawn) - len(lows_and_highs)
    # Ahead of the bars, the load's column is spare just where the ways alone can bear it.
    rows = drawn[:ways] + [loaded] + drawn[ways:]
    states = spare_columns(turned(rows, len(loaded)), len(rows))
    if ways in states:
        return ("endless", pulls_and_pushes(F, states[ways][:ways])[1])
    borne = list(states.values())
    told = most_borne(borne, ways, lows_and_highs)
    numbers = mixed_rows(told[1], borne, len(rows))
    forces = pulls_and_pushes(F, numbers[:ways] + numbers[ways + 1:])
    due = [NOUGHT] * ways + [ONE] + signs_turned(told[2])
    motion = motion_from(F, solve_rows(rows, due, len(loaded))[1])
    return ("most", told[0], forces[0], forces[1], motion)


def price_of(F, bounds, motion):
    """The price of a motion."""
    lows_and_highs = all_bounds(F, bounds)
    price = NOUGHT
    for longer, two in zip(lengthenings(F, motion).values(), lows_and_highs):
        price = sum_of(price, product_of(longer, two[1] if longer[0] > 0 else two[0]))
    return price


def all_bounds(F, bounds):
    """The bounds of all bars; refused is a name that is no bar's, then a bar without bounds or whose bounds lack 0."""
    check_bars(F, bounds)
    lows_and_highs = []
    for bar in F.bars():
        if bar not in bounds or not has_nought(bounds[bar]):
            raise NoBound(bar)
        lows_and_highs.append(bounds[bar])
    return lows_and_highs


def has_nought(two):
    """True where nought is within these bounds."""
    return two[0][0] <= 0 <= two[1][0]


def most_borne(states, ways, lows_and_highs):
    """The greatest multiple, the share of each state, and by how much each bar is lengthened by a motion of that price.

    A state is a list of pushes, a multiple of the load and pulls, in this order, that keep rest.
    """
    columns = turned(states, ways + 1 + len(lows_and_highs))
    rows = []
    limits = []
    for column, two in zip(columns[ways + 1:], lows_and_highs):
        rows.extend([both_ways(column), both_ways(signs_turned(column))])
        limits.extend([two[1], (-two[0][0], two[0][1])])
    # There is an end to it: the pull of each state's own bar is its share, and has bounds.
    told = most_of(both_ways(columns[ways]), rows, limits)
    shares = differences(told[2][:len(states)], told[2][len(states):])
    return (told[1], shares, differences(told[3][0::2], told[3][1::2]))


def both_ways(numbers):
    """The numbers, and behind them their signs turned: most_of tells nothing below 0, so a share is told in two."""
    return numbers + signs_turned(numbers)


def differences(ones, others):
    """Each of the ones less that of the others at the same place."""
    return [difference_of(one, other) for one, other in zip(ones, others)]
