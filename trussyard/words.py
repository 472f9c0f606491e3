"""The words of rows: names and numbers, and rows held against their forms.

A form is a text of words. A word of small letters stands for itself, NAME for a name of at most twenty signs, WORD for
a name of any length, NUMBER for a number's text, and MANY for a whole number from 1 to 60.
"""

from trussyard.errors import NoText
from trussyard.figures import FIGURES, read_ratio

LETTERS = "abcdefghijklmnopqrstuvwxyz"
LONGEST_NAME = 20
GREATEST_MANY = 60


def read_row(forms, row):
    """The values of a row's words by the first of the forms that it fits, or None where it fits none of them."""
    words = row.split(" ")
    for form in forms:
        values = fitted(form.split(" "), words)
        if values is not None:
            return values
    return None


def fitted(kinds, words):
    """The values of words, each of the kind at its place, or None."""
    if len(kinds) != len(words):
        return None
    values = [value_of(kind, word) for kind, word in zip(kinds, words)]
    return None if None in values else values


def value_of(kind, word):
    """What a word tells, or None where it isn't of this kind."""
    if kind == "NUMBER":
        return number_of(word)
    if kind == "MANY":
        return many_of(word)
    if kind == "NAME":
        return word if is_name(word) and len(word) <= LONGEST_NAME else None
    if kind == "WORD":
        return word if is_name(word) else None
    return word if word == kind else None


def is_name(word):
    """True where a word has one sign or more, each a small letter or a figure."""
    return word != "" and all([sign in LETTERS or sign in FIGURES for sign in word])


def number_of(word):
    """The number whose text this is, or None."""
    try:
        return read_ratio(word)
    except NoText:
        return None


def many_of(word):
    """The whole number from 1 to 60 whose text this is, or None."""
    number = number_of(word)
    if number is None or number[1] != 1 or not 1 <= number[0] <= GREATEST_MANY:
        return None
    return number[0]
