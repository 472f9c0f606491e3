"""A desk: a frame with loads, grips and bounds, told and asked by rows of words."""

from trussyard.changes import would_put, would_take
from trussyard.equations import check_bars
from trussyard.errors import NoBound, NoLine, NoLoad
from trussyard.giving import all_grips, bend_of
from trussyard.greatest import greatest_of, has_nought
from trussyard.motions import counts_of
from trussyard.notes import read_frame, show_frame
from trussyard.replies import counts_text, reply_of
from trussyard.rests import rest_of
from trussyard.words import read_row

FORMS = (
    "put WORD WORD WORD",
    "take WORD",
    "load WORD WORD NUMBER NUMBER",
    "grip WORD NUMBER",
    "bound WORD NUMBER NUMBER",
    "counts",
    "frame",
    "rest WORD",
    "bend WORD",
    "greatest WORD",
    "bar WORD",
)


class Desk:
    """Made of a frame's text, and then told rows, each of which it answers."""

    def __init__(self, text):
        self.frame = read_frame(text)
        self.loads = {}
        self.grips = {}
        self.bounds = {}

    def say(self, row):
        """The answer to a row."""
        values = read_row(FORMS, row) if isinstance(row, str) else None
        if values is None:
            raise NoLine(0)
        if values[0] == "put":
            return self.put_in(values[1], values[2], values[3])
        if values[0] == "take":
            return self.take_out(values[1])
        if values[0] == "load":
            return self.set_load(values[1], values[2], (values[3], values[4]))
        if values[0] == "grip":
            return self.set_grip(values[1], values[2])
        if values[0] == "bound":
            return self.set_bound(values[1], (values[2], values[3]))
        if values[0] == "counts":
            return counts_text(counts_of(self.frame))
        if values[0] == "frame":
            return show_frame(self.frame)
        if values[0] == "bar":
            return reply_of(would_take(self.frame, values[1]))
        return reply_of(self.borne(values[0], self.named_load(values[1])))

    def put_in(self, bar, one, other):
        """Puts a bar in."""
        told = would_put(self.frame, bar, one, other)
        self.frame.put_bar(bar, one, other)
        return told[0]

    def take_out(self, bar):
        """Takes a bar out, with its grip and bounds."""
        told = would_take(self.frame, bar)
        self.frame.take_bar(bar)
        self.grips.pop(bar, None)
        self.bounds.pop(bar, None)
        return told[0]

    def set_load(self, name, pin, force):
        """Tells what a load is at a pin from now on."""
        self.frame.check_pin(pin)
        load = self.loads.get(name, {})
        load[pin] = force
        self.loads[name] = load
        return "ok"

    def set_grip(self, bar, grip):
        """Tells a bar's grip from now on."""
        # Refuses as is due for a dict of this one grip.
        all_grips(self.frame, {bar: grip})
        self.grips[bar] = grip
        return "ok"

    def set_bound(self, bar, two):
        """Tells a bar's bounds from now on."""
        check_bars(self.frame, {bar: two})
        if not has_nought(two):
            raise NoBound(bar)
        self.bounds[bar] = two
        return "ok"

    def named_load(self, name):
        """The load of this name."""
        if name not in self.loads:
            raise NoLoad("there is no load of this name")
        return self.loads[name]

    def borne(self, word, load):
        """What is told of the frame under a load, as the word asks."""
        if word == "rest":
            return rest_of(self.frame, load)
        if word == "bend":
            return bend_of(self.frame, self.grips, load)
        return greatest_of(self.frame, self.bounds, load)
