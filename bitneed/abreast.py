"""Runs with all that can be put in, abreast: one going through tells of them all.

What can be put in is numbered from 0, rising. A word abreast is a list of WIDE
whole numbers, one for each bit of it, the lowest first: the bit n of such a
number is that of the word in the run with the n-th of what can be put in. So
each run has its own bit in all numbers here, and a number tells which runs.
"""

from bitneed.errors import TooMany
from bitneed.placed import placed_rows

MOST_BITS_PUT_IN = 8


def need_few(program):
    """None; refuses a PROGRAM with more that can be put in than is gone through."""
    wide, inputs, _ = program
    if wide * len(inputs) > MOST_BITS_PUT_IN:
        raise TooMany("more can be put in than is gone through")


def all_put_in(program):
    """All that can be put in, rising."""
    wide, inputs, _ = program
    found = [()]
    for _ in inputs:
        found = [words + (word,) for words in found for word in range(1 << wide)]
    return found


def gone_abreast(program, widths, turns):
    """All runs of a sound program with few bits that can be put in.

    By their places set rows have widths, and bits that they turn, where they have any.
    """
    rows, _ = placed_rows(program)
    going = Abreast(program[0], program[1], widths, turns)
    going.go_through(rows, going.runs)
    return going


def runs_apart(one, other):
    """Which runs tell otherwise in the one going through than in the other."""
    both = min(len(one.told), len(other.told))
    apart = 0
    for mine, others in zip(one.told, other.told):
        for bits, other_bits in zip(mine, others):
            apart |= bits ^ other_bits
    for more in one.told[both:] + other.told[both:]:
        apart |= more[0]
    return apart


class Abreast:
    """All runs, and what they tell.

    Of what is told first, second and so on, whatever place it is told at, stands a
    list: which runs tell it, and the word's bits. So lists are alike just where
    all runs tell the same.
    """

    def __init__(self, wide, inputs, widths, turns):
        self.wide = wide
        self.widths = widths
        self.turns = turns
        self.runs = (1 << (1 << (wide * len(inputs)))) - 1
        self.words = {}
        shift = wide * len(inputs)
        for name in inputs:
            shift -= wide
            self.words[name] = [_counted(self.runs, shift + bit) for bit in range(wide)]
        self.told = []
        self.widest = {}

    def go_through(self, rows, runs):
        """Goes through the rows in these runs alone."""
        for place, row, ways in rows:
            if row[0] == "set":
                self.set_word(place, row, runs)
            elif row[0] == "tell":
                self.tell_word(self.words[row[1]], runs)
            elif row[0] == "if":
                first = runs & _any_bit(self.words[row[1]])
                self.go_way(ways[0], first)
                self.go_way(ways[1], runs ^ first)
            else:
                for _ in range(row[1]):
                    self.go_through(ways[0], runs)

    def go_way(self, rows, runs):
        if runs != 0:
            self.go_through(rows, runs)

    def set_word(self, place, row, runs):
        word = self.worth(row[2])
        self.note_width(place, word, runs)
        if place in self.widths:
            width = self.widths[place]
            word = word[:width] + [0] * (self.wide - width)
        if place in self.turns:
            turn = _number(self.runs, self.wide, self.turns[place])
            word = [bits ^ others for bits, others in zip(word, turn)]
        if runs != self.runs and row[1] in self.words:
            others = self.words[row[1]]
            word = [(bits & runs) | (kept & ~runs) for bits, kept in zip(word, others)]
        self.words[row[1]] = word

    def note_width(self, place, word, runs):
        """Notes how wide a word comes to the row at most, ahead of being narrowed or turned."""
        width = self.wide
        least = self.widest.get(place, 0)
        while width > least and word[width - 1] & runs == 0:
            width -= 1
        self.widest[place] = width

    def tell_word(self, word, runs):
        # From behind: those runs that have told that many are told apart from
        # those that have told fewer, and tell at a later number.
        at = len(self.told)
        while runs != 0:
            those = runs & self.told[at - 1][0] if at > 0 else runs
            if those != 0:
                self.tell_at(at, word, those)
                runs ^= those
            at -= 1

    def tell_at(self, at, word, runs):
        if at == len(self.told):
            self.told.append([0] * (self.wide + 1))
        told = self.told[at]
        told[0] |= runs
        for bit, bits in enumerate(word):
            told[bit + 1] |= bits & runs

    def worth(self, expr):
        action = WORD_BY_EXPR[expr[0]]
        parts = [self.words[part] if type(part) is str else part for part in expr[1:]]
        return action(self.runs, self.wide, *parts)


def _counted(runs, bit):
    """That bit of the numbers of all runs: as many noughts as ones, in turn."""
    return runs ^ (runs // ((1 << (1 << bit)) + 1))


def _any_bit(word):
    """In which runs the word isn't 0."""
    found = 0
    for bits in word:
        found |= bits
    return found


# What comes of each EXPR, asked alike: by all runs, by WIDE, and by the parts of
# the EXPR, words abreast where a name stands in it.

def _number(runs, wide, n):
    return [runs if n >> bit & 1 else 0 for bit in range(wide)]


def _copy(runs, wide, y):
    return y


def _sum(runs, wide, y, z):
    return _carried(y, z, 0)


def _difference(runs, wide, y, z):
    return _carried(y, [runs ^ bits for bits in z], runs)


def _carried(y, z, carry):
    word = []
    for one, other in zip(y, z):
        unlike = one ^ other
        word.append(unlike ^ carry)
        carry = (one & other) | (unlike & carry)
    return word


def _both(runs, wide, y, z):
    return [one & other for one, other in zip(y, z)]


def _either(runs, wide, y, z):
    return [one | other for one, other in zip(y, z)]


def _unlike(runs, wide, y, z):
    return [one ^ other for one, other in zip(y, z)]


def _same(runs, wide, y, z):
    return [runs ^ _any_bit(_unlike(runs, wide, y, z))] + [0] * (wide - 1)


def _below(runs, wide, y, z):
    # The highest bit that is unlike decides, so higher ones come later here.
    less = 0
    for one, other in zip(y, z):
        less = (other & ~one) | (less & ~(one ^ other))
    return [less] + [0] * (wide - 1)


def _up(runs, wide, y, k):
    return ([0] * k + y)[:wide]


def _down(runs, wide, y, k):
    return (y + [0] * k)[k:]


def _pick(runs, wide, c, y, z):
    chosen = _any_bit(c)
    return [(one & chosen) | (other & ~chosen) for one, other in zip(y, z)]


WORD_BY_EXPR = {
    "number": _number,
    "copy": _copy,
    "add": _sum,
    "less": _difference,
    "and": _both,
    "or": _either,
    "unlike": _unlike,
    "same": _same,
    "below": _below,
    "up": _up,
    "down": _down,
    "pick": _pick,
}
