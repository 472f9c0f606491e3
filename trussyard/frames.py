"""Frames: pins and bars, told in the order in which they were put."""

from trussyard.errors import BarThere, NoBar, NoLength, NoPin, PinBusy, PinThere, SpotTaken, TooMany

MOST_PINS = 24
MOST_BARS = 60


class Frame:
    """Pins with their places and ways, and bars with their ends; none at first."""

    def __init__(self):
        # A dict keeps the order of putting, and what is taken and put again comes last in it.
        self.pin_places = {}
        self.pin_ways = {}
        self.bar_ends = {}

    def put_pin(self, name, x, y, hold=None):
        """Puts a pin at (x, y), with a plain hold where none is told."""
        if name in self.pin_places:
            raise PinThere(name)
        for pin, spot in self.pin_places.items():
            if spot == (x, y):
                raise SpotTaken(pin)
        if len(self.pin_places) >= MOST_PINS:
            raise TooMany("a frame has at most 24 pins")
        self.pin_places[name] = (x, y)
        # The ways are kept, not the hold, so that nothing done to the hold later matters.
        self.pin_ways[name] = [] if hold is None else list(hold.ways())

    def put_bar(self, name, one, other):
        """Puts a bar from the pin one to the pin other."""
        self.check_bar(name, one, other)
        self.bar_ends[name] = (one, other)

    def check_bar(self, name, one, other):
        """Refuses a bar that can't be put, and changes nothing."""
        if name in self.bar_ends:
            raise BarThere(name)
        self.check_pin(one)
        self.check_pin(other)
        if one == other:
            raise NoLength(name)
        if len(self.bar_ends) >= MOST_BARS:
            raise TooMany("a frame has at most 60 bars")

    def check_pin(self, pin):
        """Refuses a name that is no pin's."""
        if pin not in self.pin_places:
            raise NoPin(pin)

    def take_bar(self, name):
        """Takes a bar out."""
        if name not in self.bar_ends:
            raise NoBar(name)
        self.bar_ends.pop(name)

    def take_pin(self, name):
        """Takes a pin out, where no bar ends."""
        self.check_pin(name)
        for bar, two in self.bar_ends.items():
            if name in two:
                raise PinBusy(name, bar)
        self.pin_places.pop(name)
        self.pin_ways.pop(name)

    def pins(self):
        """The names of all pins."""
        return list(self.pin_places)

    def bars(self):
        """The names of all bars."""
        return list(self.bar_ends)

    def place(self, pin):
        """Where a pin lies: how far to the right and up."""
        self.check_pin(pin)
        return self.pin_places[pin]

    def ways(self, pin):
        """The ways of a pin's hold."""
        self.check_pin(pin)
        return list(self.pin_ways[pin])

    def ends(self, bar):
        """The two pins where a bar ends."""
        if bar not in self.bar_ends:
            raise NoBar(bar)
        return self.bar_ends[bar]
