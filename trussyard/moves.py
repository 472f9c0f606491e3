"""Forces at pins, and what motions do to bars and holds."""

from trussyard.ratios import NOUGHT, difference_of, product_of, sum_of

NO_MOVE = ((0, 1), (0, 1))


def forces_at(F, pulls, pushes):
    """What draws each pin: its hold by its pushes, its bars by their pulls."""
    forces = {}
    for pin in F.pins():
        forces[pin] = hold_force(F.ways(pin), pushes.get(pin, []))
    for bar in F.bars():
        two = F.ends(bar)
        drawn = stretched(pulls.get(bar, NOUGHT), arm_between(F, two[0], two[1]))
        forces[two[0]] = pair_sum(forces[two[0]], drawn)
        forces[two[1]] = pair_difference(forces[two[1]], drawn)
    return forces


def lengthenings(F, motion):
    """By how much each bar is lengthened by a motion."""
    longer = {}
    for bar in F.bars():
        two = F.ends(bar)
        apart = pair_difference(motion.get(two[1], NO_MOVE), motion.get(two[0], NO_MOVE))
        longer[bar] = pair_product(arm_between(F, two[0], two[1]), apart)
    return longer


def slips(F, motion):
    """By how much each way of each pin slips by a motion."""
    slipped = {}
    for pin in F.pins():
        move = motion.get(pin, NO_MOVE)
        slipped[pin] = [pair_product(way, move) for way in F.ways(pin)]
    return slipped


def work_of(load, motion):
    """The work of a load on a motion."""
    work = NOUGHT
    for pin, force in load.items():
        work = sum_of(work, pair_product(force, motion.get(pin, NO_MOVE)))
    return work


def hold_force(ways, pushes):
    """What a hold of these ways draws its pin by; where no pushes are told they are nought."""
    force = NO_MOVE
    for way, push in zip(ways, pushes):
        force = pair_sum(force, stretched(push, way))
    return force


def arm_between(F, one, other):
    """The arm of a bar from the pin one to the pin other."""
    return pair_difference(F.place(other), F.place(one))


def pair_sum(one, other):
    """Two pairs of numbers put together."""
    return (sum_of(one[0], other[0]), sum_of(one[1], other[1]))


def pair_difference(one, other):
    """The pair one less the pair other."""
    return (difference_of(one[0], other[0]), difference_of(one[1], other[1]))


def pair_product(one, other):
    """The sum of the products of what stands at the same place in two pairs."""
    return sum_of(product_of(one[0], other[0]), product_of(one[1], other[1]))


def stretched(number, pair):
    """The pair, number times."""
    return (product_of(number, pair[0]), product_of(number, pair[1]))
