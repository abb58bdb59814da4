"""An own, plain model of a desk, over models of basins, and rows drawn in a fixed way."""

import re

from tests.model import Model, Refusal, drawn_deed
from tests.plain import plain_moves, plain_way, union_of_lots

A = "[a-z]{1,8}"
K = "(?:0|[1-9][0-9]{0,39})"
GRAMMAR = [
    re.compile(form.replace("A", A).replace("B", A).replace("K", K))
    for form in (
        "new A", "fork A", "go A", "gone A", "pour A B K", "back A", "dig A(?: K)?", "fill A", "brim A K", "pipe A B(?: K)?",
        "cut A B", "spill A(?: K)?", "unspill(?: A)+(?: K)?", "rest", "settle", "line", "why", "down", "over", "text",
        "basins", "same A", "play(?: K)*",
    )
]


def is_row(thing):
    """Point 25's words of a row, of anything."""
    return type(thing) is str and thing.isascii() and any(form.fullmatch(thing) for form in GRAMMAR)


def worth(word):
    return int(word) if word.isdigit() else word


class DeskModel:
    """A desk as points 25 to 27 tell it; say() raises Refusal where the program has to refuse."""

    def __init__(self):
        self.basins = {"main": Model()}
        self.work = "main"
        self.journal = []

    def say(self, row):
        self.journal.append(f"> {row}" if type(row) is str else "> ?")
        try:
            if not is_row(row):
                raise Refusal("NoRow")
            word, *told = row.split(" ")
            return getattr(self, f"say_{word}", self.deed)(word, *map(worth, told))
        finally:
            self.journal.append("<")

    def model(self):
        return self.basins[self.work]

    def check_basin(self, name):
        if name not in self.basins:
            raise Refusal("NoBasin", name=name)

    def add(self, name, model):
        if name in self.basins:
            raise Refusal("Taken", name=name)
        if len(self.basins) == 12:
            raise Refusal("TooMany", kind="basins")
        self.basins[name] = model

    def say_new(self, word, name):
        self.add(name, Model())
        self.work = name
        return "ok"

    def say_fork(self, word, name):
        self.add(name, self.model().copied())
        return "ok"

    def say_go(self, word, name):
        self.check_basin(name)
        self.work = name
        return "ok"

    def say_gone(self, word, name):
        self.check_basin(name)
        if name == self.work:
            raise Refusal("AtWork", name=name)
        del self.basins[name]
        return "ok"

    def deed(self, word, *told):
        more = {"dig": (1, 4), "pipe": (2, 1), "spill": (1, 1)}
        if word in more and len(told) == more[word][0]:
            told = (*told, more[word][1])
        if word == "unspill":
            times = told[-1] if type(told[-1]) is int else 1
            told = ([name for name in told if type(name) is str], times)
        done = self.model().do((word, *told))
        return "ok" if done is None else self.signed(done)

    def signed(self, more):
        return " ".join(f"{name}{more[name]:+d}" for name in sorted(more) if more[name])

    def say_line(self, word):
        model = self.model()
        waters = model.waters()
        return " ".join(f"{name}:{waters[name]}/{model.brims[name]}*{model.counts[name]}" for name in sorted(waters))

    def say_why(self, word):
        """Of what is settled the word alone: which row of why is told isn't promised."""
        model = self.model()
        if model.full():
            return f"spill {model.full()[0]}"
        lot = union_of_lots(model.plain_net(), model.poured(), model.counts)
        return " ".join(["unspill", *lot]) if lot else "settled"

    def above(self):
        model = self.model()
        if model.full():
            raise Refusal("NotAtRest", name=model.full()[0])
        least = model.settled()
        return {name: model.counts[name] - least[name] for name in least}

    def say_down(self, word):
        return " ".join("+".join(lot) + f"*{times}" for lot, times in plain_way(self.above()))

    def say_over(self, word):
        return self.signed(self.above())

    def say_text(self, word):
        model = self.model()
        rows = [f"pond {name} {model.brims[name]} {model.counts[name]}" for name in sorted(model.brims)]
        rows += [f"pipe {one} {other} {model.pipes[one, other]}" for one, other in sorted(model.pipes)]
        rows += [f"pour {name} {pond} {amount}" for name, pond, amount in model.pour_list()]
        return "; ".join(rows)

    def say_basins(self, word):
        return " ".join("*" * (name == self.work) + name for name in sorted(self.basins))

    def say_same(self, word, name):
        self.check_basin(name)
        one, other = self.model(), self.basins[name]
        same = (one.brims, one.pipes, one.pours) == (other.brims, other.pipes, other.pours)
        return "yes" if same else "no"

    def say_play(self, word, *picks):
        model, told = self.model(), []
        for pick in picks:
            choices = plain_moves(model.plain_net(), model.poured(), model.counts)
            if choices:
                move, part = choices[pick % len(choices)]
                names = [part] if move == "spill" else part
                for name in names:
                    model.counts[name] += 1 if move == "spill" else -1
                told.append(" ".join([move, *names]))
        return "; ".join(told)


BASINS = ["main", "main", "rest", "pond", "z", "new", "aa", "b", "c"]
ASKING = "line why down over text basins play play same same".split()
HANDLING = "new fork fork go go go gone".split()


def drawn_row(chance, desk):
    """A row: mostly a deed, else one that asks or handles basins, now and then one with a sign changed."""
    chosen = chance.randrange(10)
    if chosen < 6:
        row = deed_row(chance, desk.model())
    elif chosen < 9:
        row = chance.choice(ASKING)
        if row == "same":
            row += f" {chance.choice(BASINS)}"
        if row == "play":
            row = " ".join([row, *[str(chance.choice([0, 1, 2, 5, 10 ** 39])) for _ in range(chance.randrange(5))]])
    else:
        row = f"{chance.choice(HANDLING)} {chance.choice(BASINS)}"
    if chance.randrange(12) == 0:
        at = chance.randrange(len(row) + 1)
        row = row[:at] + chance.choice([" ", "\n", "", "0", "1", "a", "A", "-", "+", "; "]) + row[at + chance.randrange(2):]
    return row


def deed_row(chance, model):
    """A deed as a row; what a deed may have of anything, but no row, is drawn again."""
    while True:
        word, *told = drawn_deed(chance, model)
        if word == "unspill" and isinstance(told[0], (list, tuple)):
            told = [*told[0], told[1]]
        if all(type(part) in (str, int) for part in told):
            if told and told[-1] == {"dig": 4, "pipe": 1, "spill": 1, "unspill": 1}.get(word) and chance.randrange(2):
                told = told[:-1]
            return " ".join([word, *map(str, told)])
