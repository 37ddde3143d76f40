"""The rows of a program with their places, for whoever goes through them.

A row stands as (PLACE, ROW, WAYS): WAYS is a list of the ROWS within it, each
again a list of such rows, of an if the first ones ahead.
"""

from bitneed.forms import inner_rows


def placed_rows(program):
    """The ROWS of a sound program with their places, and how many places there are."""
    return _placed_from(program[2], 0)


def rows_from(rows, place):
    """Those of the placed rows that stand in the same ROWS from that place on."""
    for at, (here, _, ways) in enumerate(rows):
        if here == place:
            return rows[at:]
        for way in ways:
            found = rows_from(way, place)
            if found:
                return found
    return []


def _placed_from(rows, place):
    """The rows with their places from that one on, and the place behind them."""
    found = []
    for row in rows:
        here = place
        place += 1
        ways = []
        for within in inner_rows(row):
            way, place = _placed_from(within, place)
            ways.append(way)
        found.append((here, row, ways))
    return found, place
