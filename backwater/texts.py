"""Texts: a basin written in rows, and read again."""

from backwater.basins import Basin
from backwater.errors import NoText, WaterError
from backwater.nets import Net
from backwater.stands import Stand
from backwater.wholes import figures, is_figures, number_of


def basin_text(basin):
    """The text of a basin: a row for each pond, for each pipe and for each pour."""
    brims = basin.net().brims()
    pipes = basin.net().pipes()
    counts = basin.counts()
    rows = [f"pond {name} {brims[name]} {figures(counts[name])}" for name in sorted(brims)]
    rows.extend([f"pipe {one} {other} {pipes[(one, other)]}" for one, other in sorted(pipes)])
    rows.extend([f"pour {name} {pond} {figures(amount)}" for name, pond, amount in basin.pours()])
    return "\n".join(rows)


def number_in(word):
    """The number that a word of a text is."""
    if not is_figures(word):
        raise NoText("no number in base ten")
    return number_of(word)


def basin_of_rows(rows):
    """The basin that rows tell, in whatever order they stand."""
    brims = {}
    counts = {}
    pipes = {}
    pours = []
    for words in rows:
        if len(words) != 4:
            raise NoText("each row has four words")
        word, one, other, last = words
        if word == "pond":
            brims[one] = number_in(other)
            counts[one] = number_in(last)
        elif word == "pipe":
            pipes[(one, other)] = number_in(last)
        elif word == "pour":
            pours.append((one, other, number_in(last)))
        else:
            raise NoText("no pond, no pipe and no pour")
    basin = Basin(Net(brims, pipes))
    basin.become(basin.net(), pours)
    basin.come_to(Stand(basin.net(), None, counts))
    return basin


def read_basin(text):
    """The basin of which a text is written, of anything else a refusal."""
    if not isinstance(text, str):
        raise NoText("no text at all")
    rows = [row.split(" ") for row in text.split("\n")] if text else []
    try:
        basin = basin_of_rows(rows)
    except WaterError as refusal:
        raise NoText("no basin has this text") from refusal
    # Rows that stand twice or in another order tell a basin, too, but that one's text is another one.
    if basin_text(basin) != text:
        raise NoText("the basin that is told has another text")
    return basin
