"""NEEDS told from behind: which bits of each name are needed ahead of a place and behind it."""

from bitneed.bits import ways_of
from bitneed.forms import inner_rows, need_place, need_program
from bitneed.fronts import facts_by_places
from bitneed.placed import placed_rows


def needs(program):
    """For each place (AHEAD, BEHIND), each a tuple of (NAME, BITS)."""
    need_program(program)
    back, _ = gone_back(program)
    return tuple([(names_rising(ahead), names_rising(behind))
                  for ahead, behind in zip(back.ahead, back.behind)])


def needs_of(program):
    """A tuple of (NAME, BITS) for each INPUT: what is needed of it ahead of all rows."""
    need_program(program)
    _, ahead = gone_back(program)
    return tuple([(name, ahead.get(name, 0)) for name in program[1]])


def is_idle(program, place):
    """Whether an IDLE if stands there, and is come to."""
    need_place(program, place)
    back, _ = gone_back(program)
    return back.idle[place]


def names_rising(needed):
    return tuple([(name, needed[name]) for name in sorted(needed)])


def gone_back(program):
    """A sound program gone through from behind, and the needs ahead of all its rows."""
    rows, many = placed_rows(program)
    back = Back(program[0], facts_by_places(program), many)
    return back, back.go_back(rows, {})


class Back:
    """A going through rows from behind, by the facts ahead of each place.

    NEEDS are a dict with the bits of those names of which one is needed at all.
    It is never changed once it is told.
    """

    def __init__(self, wide, facts, many):
        self.wide = wide
        self.facts = facts
        self.ahead = [{} for _ in range(many)]
        self.behind = [{} for _ in range(many)]
        self.idle = [False] * many
        self.ends = {}

    def go_back(self, rows, needed):
        """The needs ahead of rows that have these behind them."""
        for place, row, ways in reversed(rows):
            self.behind[place] = needed
            if row[0] == "set":
                needed = self.ahead_of_set(place, row, needed)
            elif row[0] == "tell":
                needed = with_more(needed, [(row[1], (1 << self.wide) - 1)])
            elif row[0] == "if":
                needed = self.ahead_of_if(place, row, ways, needed)
            elif row[1] > 0:
                needed = self.ahead_of_round(place, ways[0], needed)
            needed = self.note_ahead(place, needed)
        return needed

    def note_ahead(self, place, needed):
        """The needs with which the rows ahead go on: these, unless others are taken."""
        self.ahead[place] = needed
        return needed

    def ahead_of_set(self, place, row, behind):
        name, expr = row[1], row[2]
        if name not in behind:
            return behind
        others = {other: behind[other] for other in behind if other != name}
        action = NEEDS_BY_EXPR[expr[0]]
        return with_more(others, action((1 << self.wide) - 1, behind[name], expr, self.facts[place]))

    def ahead_of_if(self, place, row, ways, behind):
        name = row[1]
        facts = self.facts[place][name]
        to_first, to_second = ways_of(self.wide, facts)
        # Its ways are gone through where it is idle, too: their places want telling.
        first = self.go_back(ways[0], behind) if to_first else {}
        second = self.go_back(ways[1], behind) if to_second else {}
        self.idle[place] = not _counts(row[2] + row[3], behind)
        if self.idle[place]:
            return behind
        of_name = (1 << self.wide) - 1 if to_second else _lowest(facts[1])
        return with_more(with_more(first, list(second.items())), [(name, of_name)])

    def ahead_of_round(self, place, rows, behind):
        # What is needed at the end only grows from one going through to the
        # next, also where a round around this one comes back to it.
        end = with_more(behind, list(self.ends.get(place, {}).items()))
        ahead = self.go_back(rows, end)
        wanted = with_more(end, list(ahead.items()))
        while wanted != end:
            end = wanted
            ahead = self.go_back(rows, end)
            wanted = with_more(end, list(ahead.items()))
        self.ends[place] = end
        return ahead


def _counts(rows, needed):
    """Whether a tell stands in the rows, or a set row of a name of which a bit is needed."""
    for row in rows:
        if row[0] == "tell" or (row[0] == "set" and row[1] in needed):
            return True
        if any([_counts(within, needed) for within in inner_rows(row)]):
            return True
    return False


def with_more(needed, more):
    """The needs with more (NAME, BITS), which may be no bits."""
    together = dict(needed)
    for name, bits in more:
        if bits != 0:
            together[name] = together.get(name, 0) | bits
    return together


def _lowest(ones):
    return ones & -ones


# What is needed of the names in each EXPR. All are asked alike: by the greatest
# word there is, the bits that are needed of what comes, which are never none,
# the EXPR, and the facts ahead of the row.

def _none(most, bits, expr, facts):
    return []


def _those(most, bits, expr, facts):
    return [(name, bits) for name in expr[1:]]


def _up_to_highest(most, bits, expr, facts):
    up_to = (1 << bits.bit_length()) - 1
    return [(expr[1], up_to), (expr[2], up_to)]


def _both(most, bits, expr, facts):
    # Where z has a 0, y counts nothing. Only one of the two goes by the other:
    # where both have a 0, one has to stay needed.
    zeros, _ = facts[expr[2]]
    return [(expr[1], bits & ~zeros), (expr[2], bits)]


def _either(most, bits, expr, facts):
    _, ones = facts[expr[2]]
    return [(expr[1], bits & ~ones), (expr[2], bits)]


def _truth(most, bits, expr, facts):
    return [(name, most) for name in expr[1:] if bits & 1]


def _up(most, bits, expr, facts):
    return [(expr[1], bits >> expr[2])]


def _down(most, bits, expr, facts):
    return [(expr[1], (bits << expr[2]) & most)]


def _pick(most, bits, expr, facts):
    _, c, y, z = expr
    zeros, ones = facts[c]
    if ones != 0:
        return [(c, _lowest(ones)), (y, bits)]
    if zeros == most:
        return [(c, most), (z, bits)]
    return [(c, most), (y, bits), (z, bits)]


NEEDS_BY_EXPR = {
    "number": _none,
    "copy": _those,
    "add": _up_to_highest,
    "less": _up_to_highest,
    "and": _both,
    "or": _either,
    "unlike": _those,
    "same": _truth,
    "below": _truth,
    "up": _up,
    "down": _down,
    "pick": _pick,
}
