"""Rows that a desk is told: words with one blank between."""

from backwater.errors import NoRow
from backwater.nets import BRIM, WIDTH, is_name
from backwater.wholes import is_figures, number_of

MOST_FIGURES = 40

# Behind each word names (A) and numbers (K); those of unspill and play are of any length.
SHAPES = {
    "new": ("A",), "fork": ("A",), "go": ("A",), "gone": ("A",), "pour": ("AAK",), "back": ("A",), "dig": ("A", "AK"),
    "fill": ("A",), "brim": ("AK",), "pipe": ("AA", "AAK"), "cut": ("AA",), "spill": ("A", "AK"), "rest": ("",),
    "settle": ("",), "line": ("",), "why": ("",), "down": ("",), "over": ("",), "text": ("",), "basins": ("",),
    "same": ("A",),
}
WITH_DEFAULT = ("dig", "pipe", "spill", "unspill")


def is_number(word):
    """Whether a word is a number that may stand in a row."""
    return len(word) <= MOST_FIGURES and is_figures(word)


def sign_of(word):
    """A sign for the kind of a word: A for a NAME, K for a number, else a question mark."""
    if is_name(word):
        return "A"
    return "K" if is_number(word) else "?"


def is_shape(word, shape):
    """Whether words of these kinds may stand behind a word at the beginning of a row."""
    if word == "unspill":
        names = shape.removesuffix("K")
        return names != "" and names.replace("A", "") == ""
    if word == "play":
        return shape.replace("K", "") == ""
    return word in SHAPES and shape in SHAPES[word]


def parts_of(row):
    """The words of a row, its numbers as such; refused is what is no row, of any kind."""
    if not isinstance(row, str):
        raise NoRow("a row is a text")
    words = row.split(" ")
    if not is_shape(words[0], "".join([sign_of(word) for word in words[1:]])):
        raise NoRow("no such row")
    return words[:1] + [number_of(word) if is_number(word) else word for word in words[1:]]


def default_of(word):
    """The number that is meant where a row leaves it out."""
    if word == "dig":
        return BRIM
    return WIDTH if word == "pipe" else 1


def deed_of(parts):
    """The deed that the parts of a row tell."""
    told = list(parts)
    if told[0] in WITH_DEFAULT and isinstance(told[-1], str):
        told.append(default_of(told[0]))
    if told[0] == "unspill":
        return told[0], told[1:-1], told[-1]
    return tuple(told)
