"""Programs made PLAIN: without what isn't come to, what nobody needs, and what is known ahead."""

from bitneed.bits import made_facts, ways_of
from bitneed.forms import need_place, need_program
from bitneed.needs import gone_back
from bitneed.placed import placed_rows, rows_from


def made_plain(program):
    """The PROGRAM made plain from within outwards, in one going."""
    need_program(program)
    wide, inputs, _ = program
    rows, _ = placed_rows(program)
    back, _ = gone_back(program)
    return (wide, inputs, _plain_rows(rows, back))


def plain_at(program, place):
    """A tuple of the ROWS that come in the place of that row and those within it."""
    need_place(program, place)
    rows, _ = placed_rows(program)
    back, _ = gone_back(program)
    return _plain_row(rows_from(rows, place)[0], back)


def is_plain(program):
    """Whether made_plain tells just the program."""
    return made_plain(program) == program


def _plain_rows(rows, back):
    found = []
    for placed in rows:
        found.extend(_plain_row(placed, back))
    return tuple(found)


def _plain_row(placed, back):
    """The ROWS for a placed one, by a going back through the program as it is."""
    place, row, ways = placed
    if back.facts[place] is None:
        return ()
    if row[0] == "set":
        return _plain_set(row, back.wide, back.facts[place], back.behind[place].get(row[1], 0))
    if row[0] == "if":
        come_to = ways_of(back.wide, back.facts[place][row[1]])
        return _plain_if(row, [_plain_rows(way, back) for way in ways], come_to)
    if row[0] == "round":
        # Nothing is left in a round of 0, as its rows aren't come to.
        within = _plain_rows(ways[0], back)
        return (("round", row[1], within),) if within else ()
    return (row,)


def _plain_set(row, wide, facts, needed):
    if needed == 0:
        return ()
    _, name, expr = row
    zeros, ones = made_facts(wide, expr, facts)
    if needed & ~(zeros | ones) == 0:
        return (("set", name, ("number", ones)),)
    if expr[0] == "pick":
        _, c, y, z = expr
        if facts[c][1] != 0:
            return (("set", name, ("copy", y)),)
        if facts[c][0] == (1 << wide) - 1:
            return (("set", name, ("copy", z)),)
    return (row,)


def _plain_if(row, ways, come_to):
    first, second = ways
    to_first, to_second = come_to
    if not to_second:
        return first
    if not to_first:
        return second
    return (("if", row[1], first, second),) if first or second else ()
