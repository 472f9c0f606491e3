"""Rows of numbers: their products, and how they are mixed, solved and split.

Within, a row is reckoned with as a line: whole numbers alone, a multiple of the row. So numbers are brought to lowest
terms just where they are told, not at every step.
"""

from trussyard.ratios import NOUGHT, ONE, greatest_shared, lowest_terms


def times_row(row, xs):
    """The product of a row with a list of as many numbers."""
    return whole_product(whole_row(row), whole_row(xs))


def mixed_rows(shares, rows, many):
    """The rows mixed by shares: a number for each of many columns."""
    whole = whole_row(shares)
    return [whole_product(whole, whole_row(column)) for column in turned(rows, many)]


def solve_rows(rows, due, many):
    """("solved", x), x having the products due with the rows, or ("paper", y), shares that show there is none such."""
    wholes = [whole_row(row + [number]) for row, number in zip(rows, due)]
    lines = [whole[0] for whole in wholes]
    x = solution_of(lines, many)
    if x is not None:
        return ("solved", x)
    # Shares that mix the columns to 0 and due to 1 solve the lines turned about, and there always are some here.
    columns = turned(lines, many + 1)
    papers = [column + [0] for column in columns[:many]] + [columns[many] + [1]]
    shares = solution_of(papers, len(lines))
    # A share was found for the line, which is its row as many times as the bottom tells.
    return ("paper", [lowest_terms(share[0] * whole[1], share[1]) for share, whole in zip(shares, wholes)])


def split_rows(rows, many):
    """The spare columns with their lists, and the needed columns with their shares."""
    return (spare_columns(rows, many), needed_columns(rows, many))


def spare_columns(rows, many):
    """A dict from the spare columns to lists whose products with the rows are nought."""
    needed = reduced([whole_row(row)[0] for row in rows], many)[0]
    spare = {}
    for column in range(many):
        if column not in needed:
            spare[column] = spare_list(needed, column, many)
    return spare


def spare_list(needed, column, many):
    """A list of 1 in this spare column that the lines of the needed columns bring to nought."""
    numbers = [NOUGHT] * many
    numbers[column] = ONE
    for place, line in needed.items():
        numbers[place] = lowest_terms(-line[column], line[place])
    return numbers


def needed_columns(rows, many):
    """A dict from the needed columns to shares by which the rows mixed are 1 there and 0 in the other needed ones."""
    wholes = [whole_row(row) for row in rows]
    # Behind each line stand the shares by which it is mixed of the first lines.
    lines = [whole[0] + unit_line(at, len(wholes)) for at, whole in enumerate(wholes)]
    needed = {}
    for column, line in reduced(lines, many)[0].items():
        shares = line[many:]
        needed[column] = [lowest_terms(share * whole[1], line[column]) for share, whole in zip(shares, wholes)]
    return needed


def turned(rows, many):
    """The columns of the rows, each a list of as many as there are rows."""
    columns = []
    for column in range(many):
        columns.append([row[column] for row in rows])
    return columns


def whole_row(row):
    """A tuple of whole numbers and a bottom from 1 on: the row's numbers are these by the bottom."""
    bottom = 1
    for number in row:
        bottom = bottom // greatest_shared(bottom, number[1]) * number[1]
    return ([number[0] * (bottom // number[1]) for number in row], bottom)


def whole_product(one, other):
    """The product of two rows told as by whole_row."""
    top = sum([left * right for left, right in zip(one[0], other[0])])
    return lowest_terms(top, one[1] * other[1])


def unit_line(at, many):
    """A line of many whole numbers, 1 at one place and else 0."""
    line = [0] * many
    line[at] = 1
    return line


def solution_of(lines, many):
    """A list of many numbers whose product with each line's first ones is its last one, or None."""
    told = reduced(lines, many)
    if any([line[many] != 0 for line in told[1]]):
        return None
    x = [NOUGHT] * many
    for column, line in told[0].items():
        x[column] = lowest_terms(line[many], line[column])
    return x


def reduced(lines, many):
    """The lines mixed anew, so that none is lost and the first many columns can be read off them.

    Told are a dict from the needed columns, in rising order, to lines that are not 0 there and 0 in each other needed
    column, and the list of the lines left, which are 0 in all these columns.
    """
    needed = {}
    left = lines
    for column in range(many):
        at = first_not_nought(left, column)
        if at is None:
            continue
        lead = left[at]
        left = [cleared(line, lead, column) for line in left[:at] + left[at + 1:]]
        for place in list(needed):
            needed[place] = cleared(needed[place], lead, column)
        needed[column] = lead
    return (needed, left)


def first_not_nought(lines, column):
    """The place of the first line that is not 0 in the column, or None."""
    for at, line in enumerate(lines):
        if line[column] != 0:
            return at
    return None


def cleared(line, lead, column):
    """The line less as much of the lead as makes it 0 in the column, as a multiple that is not 0."""
    if line[column] == 0:
        return line
    shared = greatest_shared(lead[column], line[column])
    times = lead[column] // shared
    less = line[column] // shared
    return divided([times * whole - less * other for whole, other in zip(line, lead)])


def divided(line):
    """The line divided by what all its numbers share, lest they grow beyond need."""
    shared = 0
    for whole in line:
        shared = greatest_shared(whole, shared)
        if shared == 1:
            return line
    return [whole // shared for whole in line] if shared > 1 else line
