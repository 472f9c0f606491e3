"""Holds: what keeps a pin to the ground, told by the ways that it holds."""

from trussyard.errors import NoWay


class Hold:
    """A plain hold, which holds nothing."""

    def ways(self):
        return []


class Roller(Hold):
    """A hold of the one way that it is made with."""

    def __init__(self, x, y):
        if x[0] == 0 and y[0] == 0:
            raise NoWay("a way has a number that isn't nought")
        self.way = (x, y)

    def ways(self):
        return [self.way]


class Fixed(Hold):
    """A hold of two ways, to the right and up."""

    def ways(self):
        return [((1, 1), (0, 1)), ((0, 1), (1, 1))]
