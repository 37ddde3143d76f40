"""WIDTHS: how many bits of each set row's word are needed at most."""

from bitneed.bits import made_facts
from bitneed.forms import places_of, set_places
from bitneed.needs import gone_back


def widths(program):
    """A tuple of a WIDTH for each set row, by places."""
    rows = places_of(program)
    back, _ = gone_back(program)
    return widths_by(program[0], rows, back.facts, back.behind)


def widest(program):
    """A tuple of (NAME, WIDTH) for each name that is set: the greatest of its set rows."""
    rows = places_of(program)
    greatest = {}
    for place, width in zip(set_places(program), widths(program)):
        name = rows[place][1]
        greatest[name] = max(width, greatest.get(name, 0))
    return tuple([(name, greatest[name]) for name in sorted(greatest)])


def spared(program):
    """How many bits the WIDTHS of all set rows leave out together."""
    told = widths(program)
    return program[0] * len(told) - sum(told)


def widths_by(wide, rows, facts, behind):
    """The WIDTHS of rows by places, by the facts ahead of each and the needs behind it."""
    return tuple([_width_by(wide, row, facts[place], behind[place])
                  for place, row in enumerate(rows) if row[0] == "set"])


def _width_by(wide, row, facts, behind):
    if facts is None:
        return 0
    zeros, _ = made_facts(wide, row[2], facts)
    return (behind.get(row[1], 0) & ~zeros).bit_length()
