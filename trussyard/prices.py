"""The greatest worth under limits, with prices that show that nothing is worth more."""

from trussyard.ratios import NOUGHT, is_less, lowest_terms
from trussyard.solving import whole_row


def most_of(gains, rows, limits):
    """("most", worth, x, prices), or ("endless", x) where the worth has no end."""
    gain = whole_row(gains)
    wholes = [whole_row(row + [limit]) for row, limit in zip(rows, limits)]
    lines = [whole[0] for whole in wholes]
    lines.append([-top for top in gain[0]] + [0])
    table = Table(lines)
    two = table.next_swap()
    while two is not None:
        if two[0] is None:
            return ("endless", endless_list(table, two[1], gain[1]))
        table.swap(two[0], two[1])
        two = table.next_swap()
    worth = lowest_terms(table.lines[-1][-1], table.bottom * gain[1])
    return ("most", worth, fitting_list(table), price_list(table, wholes, gain[1]))


class Table:
    """Limits and worth as lines of whole numbers, all of them by one bottom.

    The things reckoned with are numbered: the numbers asked for, and behind them what each row is short of its limit.
    Those across the top are nought at this time; each of those down the side, one a line, is the line's last number
    less the others, each times what stands across above it. The last line is the worth, told in the same way.
    """

    def __init__(self, lines):
        many = len(lines[-1]) - 1
        self.lines = lines
        self.bottom = 1
        self.across = list(range(many))
        self.down = list(range(many, many + len(lines) - 1))

    def next_swap(self):
        """A tuple of a line and the column by which the worth grows most, the line None if none hinders; or None."""
        best = None
        # By number where several do as much, here and in line_out: so nothing goes round without end where limits tie.
        for column in sorted(self.growing(), key=lambda place: self.across[place]):
            at = self.line_out(column)
            if at is None:
                return (None, column)
            if best is None or is_less(self.growth(best), self.growth((at, column))):
                best = (at, column)
        return best

    def growing(self):
        """The columns of the things by which the worth grows, be it by a step of nought."""
        return [column for column in range(len(self.across)) if self.lines[-1][column] < 0]

    def growth(self, two):
        """By how much the worth grows by a swap of this line and column, as top and bottom."""
        line = self.lines[two[0]]
        return (-self.lines[-1][two[1]] * line[-1], line[two[1]])

    def line_out(self, column):
        """The line that first comes to nought as the thing across grows, or None."""
        best = None
        for at in range(len(self.down)):
            if self.lines[at][column] > 0 and (best is None or self.is_sooner(at, best, column)):
                best = at
        return best

    def is_sooner(self, at, best, column):
        """True where the line at comes to nought ahead of the best one, by its number where both do at once."""
        one = self.lines[at][-1] * self.lines[best][column]
        other = self.lines[best][-1] * self.lines[at][column]
        return one < other or (one == other and self.down[at] < self.down[best])

    def swap(self, at, column):
        """Lets the thing down the side and the thing across the top change places."""
        lead = self.lines[at]
        lines = [self.swapped(line, lead, column) for line in self.lines]
        lines[at] = list(lead)
        lines[at][column] = self.bottom
        self.lines = lines
        self.bottom = lead[column]
        thing = self.down[at]
        self.down[at] = self.across[column]
        self.across[column] = thing

    def swapped(self, line, lead, column):
        """Another line as it is behind a swap of the lead and the column."""
        times = lead[column]
        less = line[column]
        # All that is told by one bottom is a minor of the first lines, so nothing is left over by this.
        whole = [(times * one - less * other) // self.bottom for one, other in zip(line, lead)]
        whole[column] = -less
        return whole


def fitting_list(table):
    """The numbers asked for."""
    x = [NOUGHT] * len(table.across)
    for at, thing in enumerate(table.down):
        if thing < len(x):
            x[thing] = lowest_terms(table.lines[at][-1], table.bottom)
    return x


def price_list(table, wholes, bottom):
    """A price for each row: what the worth loses by its being short of its limit."""
    many = len(table.across)
    prices = [NOUGHT] * len(wholes)
    for column, thing in enumerate(table.across):
        if thing >= many:
            # The price was found for the line, which is its row as many times as the bottom tells.
            times = wholes[thing - many][1]
            prices[thing - many] = lowest_terms(table.lines[-1][column] * times, table.bottom * bottom)
    return prices


def endless_list(table, column, bottom):
    """How the numbers asked for grow with the thing across, which no line hinders, as the worth grows by 1."""
    many = len(table.across)
    growth = -table.lines[-1][column]
    x = [NOUGHT] * many
    if table.across[column] < many:
        x[table.across[column]] = lowest_terms(table.bottom * bottom, growth)
    for at, thing in enumerate(table.down):
        if thing < many:
            x[thing] = lowest_terms(-table.lines[at][column] * bottom, growth)
    return x
