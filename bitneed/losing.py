"""What set rows lose by the facts ahead of them."""

from bitneed.bits import greatest_word, least_word
from bitneed.forms import places_of
from bitneed.fronts import facts_by_places


def loses(program):
    """For each place "never", "always" or "perhaps", "none" where there is nothing to lose."""
    rows = places_of(program)
    facts = facts_by_places(program)
    return tuple([_row_loses(program[0], row, ahead) for row, ahead in zip(rows, facts)])


def lossless(program):
    """Whether no set row that is come to loses always or perhaps."""
    return all([told in ("never", "none") for told in loses(program)])


def _row_loses(wide, row, facts):
    if facts is None or row[0] != "set":
        return "none"
    expr = row[2]
    if expr[0] == "add":
        return _sum_loses(wide, facts[expr[1]], facts[expr[2]])
    if expr[0] == "less":
        return _difference_loses(wide, facts[expr[1]], facts[expr[2]])
    if expr[0] == "up":
        return _up_loses(wide, facts[expr[1]], expr[2])
    return "never"


def _told(never, always):
    if never:
        return "never"
    return "always" if always else "perhaps"


def _sum_loses(wide, y, z):
    never = greatest_word(wide, y) + greatest_word(wide, z) < 1 << wide
    always = least_word(y) + least_word(z) >= 1 << wide
    return _told(never, always)


def _difference_loses(wide, y, z):
    never = least_word(y) >= greatest_word(wide, z)
    always = greatest_word(wide, y) < least_word(z)
    return _told(never, always)


def _up_loses(wide, y, k):
    zeros, ones = y
    most = (1 << wide) - 1
    highest = most ^ (most >> k)
    return _told(highest & zeros == highest, highest & ones != 0)
