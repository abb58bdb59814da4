"""What counts as a whole number, for every module alike."""


def is_whole(thing, least):
    """Whether a thing of any kind is a whole number from least on."""
    # True and False are ints to Python, and no whole numbers here.
    return isinstance(thing, int) and not isinstance(thing, bool) and thing >= least
