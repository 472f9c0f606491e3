"""The refusals of the program: one class each, all of them under YardError."""


class YardError(ValueError):
    """Any refusal."""


class NoNumber(YardError):
    """What was handed in makes no number."""


class NoText(YardError):
    """What was handed in is no number's text."""


class NoWay(YardError):
    """A roller's way has two noughts."""


class PinThere(YardError):
    """There already is a pin of this name."""

    def __init__(self, pin):
        YardError.__init__(self, pin)
        self.pin = pin


class SpotTaken(YardError):
    """This pin already lies at the place."""

    def __init__(self, pin):
        YardError.__init__(self, pin)
        self.pin = pin


class NoPin(YardError):
    """There is no pin of this name."""

    def __init__(self, pin):
        YardError.__init__(self, pin)
        self.pin = pin


class PinBusy(YardError):
    """The pin can't be taken, for this bar ends there."""

    def __init__(self, pin, bar):
        YardError.__init__(self, pin, bar)
        self.pin = pin
        self.bar = bar


class BarThere(YardError):
    """There already is a bar of this name."""

    def __init__(self, bar):
        YardError.__init__(self, bar)
        self.bar = bar


class NoBar(YardError):
    """There is no bar of this name."""

    def __init__(self, bar):
        YardError.__init__(self, bar)
        self.bar = bar


class NoLength(YardError):
    """Both ends of the bar are one pin."""

    def __init__(self, bar):
        YardError.__init__(self, bar)
        self.bar = bar


class TooMany(YardError):
    """More pins, bars or rows than there may be."""


class NoGrip(YardError):
    """The bar's grip is not above 0."""

    def __init__(self, bar):
        YardError.__init__(self, bar)
        self.bar = bar


class NoBound(YardError):
    """The bar has no bounds, or its bounds leave out 0."""

    def __init__(self, bar):
        YardError.__init__(self, bar)
        self.bar = bar


class NoLine(YardError):
    """The row of this number, from 0 on, is none that may stand there."""

    def __init__(self, at):
        YardError.__init__(self, at)
        self.at = at


class NoLoad(YardError):
    """There is no load of this name."""
