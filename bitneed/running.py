"""Runs of programs: what is told, and at which set rows something is lost."""

from bitneed.errors import BadInput, BadWidths
from bitneed.forms import need_program, set_places
from bitneed.placed import placed_rows
from bitneed.words import are_wholes


def run(program, words):
    """(TELLINGS, LOST) of a run that begins with a WORD for each INPUT."""
    need_program(program)
    going = gone_through(program, words, {}, {})
    return (tuple(going.told), tuple(sorted(going.lost)))


def steps(program, words):
    """A tuple of (PLACE, WORD) for each set, tell and if row each time it is gone through."""
    need_program(program)
    return tuple(gone_through(program, words, {}, {}).noted)


def narrowed(program, widths, words):
    """The TELLINGS of the run in which each set row sets a word of its WIDTH."""
    by_place = widths_by_place(program, widths)
    left = {place: (1 << by_place[place]) - 1 for place in by_place}
    return tuple(gone_through(program, words, left, {}).told)


def widths_by_place(program, widths):
    """A dict of WIDTHS by the places of the set rows; refuses as need_program, then BadWidths."""
    places = set_places(program)
    if not are_wholes(widths, len(places), program[0]):
        raise BadWidths("these are no widths of the set rows")
    return dict(zip(places, widths))


def gone_through(program, words, left, turns):
    """The run of a sound program; by their places set rows have bits that they leave, or turn."""
    wide, inputs, _ = program
    most = (1 << wide) - 1
    if not are_wholes(words, len(inputs), most):
        raise BadInput("these are no words of the inputs")
    going = Going(most, dict(zip(inputs, words)), left, turns)
    rows, _ = placed_rows(program)
    going.go_through(rows)
    return going


class Going:
    """A run, and what is noted of it."""

    def __init__(self, most, words, left, turns):
        self.most = most
        self.words = words
        self.left = left
        self.turns = turns
        self.told = []
        self.lost = {}
        self.noted = []

    def go_through(self, rows):
        for place, row, ways in rows:
            if row[0] == "set":
                self.set_word(place, row)
            elif row[0] == "tell":
                self.told.append(self.words[row[1]])
                self.noted.append((place, self.words[row[1]]))
            elif row[0] == "if":
                self.noted.append((place, self.words[row[1]]))
                self.go_through(ways[0] if self.words[row[1]] != 0 else ways[1])
            else:
                for _ in range(row[1]):
                    self.go_through(ways[0])

    def set_word(self, place, row):
        whole = _worth(row[2], self.words)
        word = whole & self.most
        if word != whole:
            self.lost[place] = True
        word = (word & self.left.get(place, self.most)) ^ self.turns.get(place, 0)
        self.words[row[1]] = word
        self.noted.append((place, word))


def _worth(expr, words):
    """What an EXPR comes to, with what is beyond WIDE or below 0."""
    action = WORTH_BY_EXPR[expr[0]]
    parts = [words[part] if type(part) is str else part for part in expr[1:]]
    return action(*parts)


def _itself(y):
    return y


def _sum(y, z):
    return y + z


def _difference(y, z):
    return y - z


def _both(y, z):
    return y & z


def _either(y, z):
    return y | z


def _unlike(y, z):
    return y ^ z


def _same(y, z):
    return 1 if y == z else 0


def _below(y, z):
    return 1 if y < z else 0


def _up(y, k):
    return y << k


def _down(y, k):
    return y >> k


def _pick(c, y, z):
    return y if c != 0 else z


WORTH_BY_EXPR = {
    "number": _itself,
    "copy": _itself,
    "add": _sum,
    "less": _difference,
    "and": _both,
    "or": _either,
    "unlike": _unlike,
    "same": _same,
    "below": _below,
    "up": _up,
    "down": _down,
    "pick": _pick,
}
