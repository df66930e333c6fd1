"""Written numbers [28]."""

from slantfloor.errors import NoText

FIGURES = "0123456789"
MOST_FIGURES = 12


def read_number(word):
    figures = word[1:] if word.startswith("-") else word
    if not 1 <= len(figures) <= MOST_FIGURES:
        raise NoText("a written number has one to twelve figures")
    if not all([sign in FIGURES for sign in figures]):
        raise NoText("a written number has figures alone, with a - ahead where it is below 0")
    # So -0 is none either.
    if figures[0] == "0" and word != "0":
        raise NoText("a written number has no 0 ahead")
    return int(word)
