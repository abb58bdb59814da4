"""What counts as a whole number, and how one is written in base ten, for every module alike."""

FIGURES = "0123456789"
PART_FIGURES = 64
PART = 10 ** 64


def is_whole(thing, least):
    """Whether a thing of any kind is a whole number from least on."""
    # True and False are ints to Python, and no whole numbers here.
    return isinstance(thing, int) and not isinstance(thing, bool) and thing >= least


def figures(number):
    """A whole number in base ten, as str writes it, however long it is."""
    if number < 0:
        return "-" + figures(-number)
    # Part by part, since str itself refuses numbers of more than some thousand figures.
    parts = []
    while number >= PART:
        number, low = divmod(number, PART)
        parts.append(str(low).zfill(PART_FIGURES))
    parts.append(str(number))
    return "".join(parts[::-1])


def is_figures(word):
    """Whether a text is a whole number from 0 on in base ten, as str writes it."""
    if word == "" or not all([sign in FIGURES for sign in word]):
        return False
    return word == "0" or word[0] != "0"


def number_of(word):
    """The number that is written in figures."""
    # Figure by figure, since int itself refuses texts of more than some thousand figures.
    number = 0
    for sign in word:
        number = number * 10 + int(sign)
    return number
