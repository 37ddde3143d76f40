"""All that can be put in, tried: what is told otherwise, and which bits count."""

from bitneed.abreast import all_put_in, gone_abreast, need_few, runs_apart
from bitneed.errors import BadAsked
from bitneed.forms import need_program, need_set_place
from bitneed.running import gone_through, widths_by_place
from bitneed.words import is_whole


def put_in(program):
    """A list of all that can be put in, rising."""
    need_program(program)
    need_few(program)
    return all_put_in(program)


def told_apart(program, other):
    """The least of what can be put in with which both tell otherwise, None without one."""
    need_program(program)
    need_program(other)
    if program[0] != other[0] or len(program[1]) != len(other[1]):
        raise BadAsked("the same can't be put in to both")
    need_few(program)
    return _least_apart(program, gone_abreast(program, {}, {}), gone_abreast(other, {}, {}))


def apart_by_widths(program, widths):
    """The least with which the run narrowed by the widths tells otherwise, None without one."""
    by_place = widths_by_place(program, widths)
    need_few(program)
    return _least_apart(program, gone_abreast(program, {}, {}), gone_abreast(program, by_place, {}))


def turned(program, place, bits, words):
    """The TELLINGS of the run that is turned by the bits at the set row of that place."""
    need_set_place(program, place)
    if not is_whole(bits, 0, (1 << program[0]) - 1):
        raise BadAsked("these are no bits of a word")
    return tuple(gone_through(program, words, {}, {place: bits}).told)


def counting(program, place):
    """The bits of the set row at that place that count."""
    need_set_place(program, place)
    need_few(program)
    as_it_is = gone_abreast(program, {}, {})
    found = 0
    for bit in range(program[0]):
        if gone_abreast(program, {}, {place: 1 << bit}).told != as_it_is.told:
            found |= 1 << bit
    return found


def _least_apart(program, one, other):
    runs = runs_apart(one, other)
    if runs == 0:
        return None
    lowest = (runs & -runs).bit_length() - 1
    return all_put_in(program)[lowest]
