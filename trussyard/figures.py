"""The texts of numbers."""

from trussyard.errors import NoText
from trussyard.ratios import ratio_of

FIGURES = "0123456789"
MOST_FIGURES = 60


def show_ratio(one):
    """The text of a number."""
    top = str(one[0])
    if one[1] == 1:
        return top
    bottom = str(one[1])
    return f"{top}/{bottom}"


def read_ratio(text):
    """The number whose text this is."""
    if not isinstance(text, str):
        raise NoText("what is no text can't be read")
    parts = text.partition("/")
    top = read_whole(parts[0])
    bottom = read_whole(parts[2]) if parts[1] == "/" else 1
    if bottom == 0:
        raise NoText("a number's bottom can't be 0")
    one = ratio_of(top, bottom)
    # Each number has one text, so any other way to write it is refused here.
    if show_ratio(one) != text:
        raise NoText(f"not as a number is written: {text!r}")
    return one


def read_whole(text):
    """The whole number that one to sixty figures tell; noughts and a - may stand ahead of them."""
    figures = text[1:] if text.startswith("-") else text
    # Asked ahead of the signs, so that no long text is ever turned into a number.
    if not 1 <= len(figures) <= MOST_FIGURES:
        raise NoText("a whole number has one to sixty figures")
    # Python's own int and isdigit would take figures of other scripts too.
    if not all([sign in FIGURES for sign in figures]):
        raise NoText(f"not all of these are figures: {text!r}")
    return int(text)
