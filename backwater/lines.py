"""Lines: stands, papers and ways down, each written in one row."""

from backwater.wholes import figures


def stand_line(stand):
    """The line of a stand: each pond's name, water, brim and count."""
    brims = stand.net().brims()
    waters = stand.waters()
    counts = stand.counts()
    return " ".join([f"{name}:{figures(waters[name])}/{brims[name]}*{figures(counts[name])}" for name in sorted(brims)])


def paper_line(paper):
    """The line of a paper, or of a move: its word and names."""
    word, told = paper
    names = [told] if isinstance(told, str) else list(told)
    return " ".join([word] + names)


def way_line(way):
    """The line of a way down: each lot's names and times."""
    return " ".join(["+".join(lot) + "*" + figures(times) for lot, times in way])


def more_line(more):
    """The line of how much more, or less, than ahead each pond has of something; of those alone that have."""
    signs = {name: "+" if more[name] > 0 else "" for name in more}
    return " ".join([name + signs[name] + figures(more[name]) for name in sorted(more) if more[name] != 0])
