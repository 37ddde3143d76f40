"""FACTS of words: which of their bits are known to be 0, which to be 1."""

from bitneed.errors import BadFacts
from bitneed.forms import names_in
from bitneed.words import is_whole


def is_facts(wide, thing):
    """Whether anything is (ZEROS, ONES) of a word so wide."""
    if type(thing) is not tuple or len(thing) != 2:
        return False
    zeros, ones = thing
    most = (1 << wide) - 1
    return is_whole(zeros, 0, most) and is_whole(ones, 0, most) and zeros & ones == 0


def least_word(facts):
    """The least word with these FACTS."""
    return facts[1]


def greatest_word(wide, facts):
    """The greatest word with these FACTS."""
    return ((1 << wide) - 1) ^ facts[0]


def common_facts(one, other):
    """The bits that are known alike in both."""
    return (one[0] & other[0], one[1] & other[1])


def ways_of(wide, facts):
    """Whether the first, the second ROWS of an if are come to where x has these FACTS."""
    return (greatest_word(wide, facts) > 0, least_word(facts) == 0)


def first_facts(wide, facts):
    """The FACTS of x in the first ROWS of an if, where these are come to."""
    zeros, ones = facts
    left = greatest_word(wide, facts)
    # A word that isn't 0 has a 1 in the only bit that can be one.
    return (zeros, left) if left & (left - 1) == 0 else (zeros, ones)


def expr_facts(wide, expr, facts):
    """The FACTS of what an EXPR comes to, by those of its names."""
    if type(facts) is not dict:
        raise BadFacts("these are no facts of names")
    for name in names_in(expr):
        if name not in facts or not is_facts(wide, facts[name]):
            raise BadFacts(f"of {name} there are no facts")
    return made_facts(wide, expr, facts)


def made_facts(wide, expr, facts):
    """As expr_facts, of a dict that is known to have the FACTS of the names."""
    action = FACTS_BY_EXPR[expr[0]]
    parts = [facts[part] if type(part) is str else part for part in expr[1:]]
    return action((1 << wide) - 1, *parts)


# What comes of each EXPR. All are asked alike: by the greatest word there is,
# and the parts of the EXPR, FACTS where a name stands in it.

def _number(most, n):
    return (most ^ n, n)


def _copy(most, y):
    return y


def _sum(most, y, z):
    return _carried(most, y, z, 0)


def _difference(most, y, z):
    # y less z is y, the bits of z the other way about, and 1 together.
    return _carried(most, y, (z[1], z[0]), 1)


def _carried(most, y, z, carry):
    least = y[1] + z[1] + carry
    greatest = (most ^ y[0]) + (most ^ z[0]) + carry
    # Greater words never carry less. So where both bits are known, the bit of
    # the sum is the same for all words just where it is for least and greatest.
    known = (y[0] | y[1]) & (z[0] | z[1]) & ~(least ^ greatest)
    return (known & ~least, known & least)


def _both(most, y, z):
    return (y[0] | z[0], y[1] & z[1])


def _either(most, y, z):
    return (y[0] & z[0], y[1] | z[1])


def _unlike(most, y, z):
    return ((y[0] & z[0]) | (y[1] & z[1]), (y[0] & z[1]) | (y[1] & z[0]))


def _same(most, y, z):
    never = (y[0] & z[1]) | (y[1] & z[0]) != 0
    always = (y[0] & z[0]) | (y[1] & z[1]) == most
    return _truth(most, never, always)


def _below(most, y, z):
    never = y[1] >= (most ^ z[0])
    always = (most ^ y[0]) < z[1]
    return _truth(most, never, always)


def _truth(most, never, always):
    if never:
        return (most, 0)
    return (most ^ 1, 1 if always else 0)


def _up(most, y, k):
    come_in = (1 << k) - 1
    return (((y[0] << k) | come_in) & most, (y[1] << k) & most)


def _down(most, y, k):
    come_in = most ^ (most >> k)
    return ((y[0] >> k) | come_in, y[1] >> k)


def _pick(most, c, y, z):
    if c[1] != 0:
        return y
    return z if c[0] == most else common_facts(y, z)


FACTS_BY_EXPR = {
    "number": _number,
    "copy": _copy,
    "add": _sum,
    "less": _difference,
    "and": _both,
    "or": _either,
    "unlike": _unlike,
    "same": _same,
    "below": _below,
    "up": _up,
    "down": _down,
    "pick": _pick,
}
