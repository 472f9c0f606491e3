"""A frame as rows of numbers.

The columns are the pairs (pin, axis). Each way of a hold and each bar has a row: what it draws at the pairs by a push
or a pull of 1. So rows mixed by pushes and pulls are the forces, and a motion's product with a row is the way's slip,
or the bar's lengthening with its sign turned.
"""

from trussyard.errors import NoBar, NoPin
from trussyard.moves import NO_MOVE, arm_between


def pairs_of(F):
    """All pairs (pin, axis), in order."""
    pairs = []
    for pin in F.pins():
        pairs.extend([(pin, 0), (pin, 1)])
    return pairs


def pair_row(F, draws):
    """A row of what a dict from pins to tuples of two numbers tells."""
    row = []
    for pin in F.pins():
        row.extend(draws.get(pin, NO_MOVE))
    return row


def load_row(F, load):
    """A load's row; refused is a name that is no pin's."""
    pins = F.pins()
    for pin in load:
        if pin not in pins:
            raise NoPin(pin)
    return pair_row(F, load)


def check_bars(F, told):
    """Refuses a dict with a name that is no bar's."""
    bars = F.bars()
    for bar in told:
        if bar not in bars:
            raise NoBar(bar)


def bar_row(F, one, other):
    """The row of a bar from one to other, be it in the frame or not."""
    return pair_row(F, {one: arm_between(F, one, other), other: arm_between(F, other, one)})


def draw_rows(F):
    """The rows of all ways, in the order of the pins, and then of all bars."""
    rows = []
    for pin in F.pins():
        for way in F.ways(pin):
            rows.append(pair_row(F, {pin: way}))
    for bar in F.bars():
        two = F.ends(bar)
        rows.append(bar_row(F, two[0], two[1]))
    return rows


def pulls_and_pushes(F, numbers):
    """The dicts of pulls and pushes that a list of numbers, one for each of draw_rows, tells."""
    pushes = {}
    at = 0
    for pin in F.pins():
        behind = at + len(F.ways(pin))
        pushes[pin] = numbers[at:behind]
        at = behind
    pulls = dict(zip(F.bars(), numbers[at:]))
    return (pulls, pushes)


def motion_from(F, numbers):
    """The motion that a list of numbers, one for each pair, tells."""
    motion = {}
    for at, pin in enumerate(F.pins()):
        motion[pin] = (numbers[2 * at], numbers[2 * at + 1])
    return motion


def signs_turned(numbers):
    """The numbers, each with its sign turned."""
    return [(-number[0], number[1]) for number in numbers]
