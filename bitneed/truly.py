"""WIDTHS that hold truly: with all that can be put in, the narrowed run tells the same."""

from bitneed.abreast import gone_abreast, need_few
from bitneed.forms import need_set_place, set_places
from bitneed.running import widths_by_place


def holds_truly(program, widths):
    """Whether the widths hold truly."""
    by_place = widths_by_place(program, widths)
    need_few(program)
    wanted = gone_abreast(program, {}, {})
    return gone_abreast(program, by_place, {}).told == wanted.told


def alone(program, place):
    """The least width of that row that holds truly where all others are WIDE."""
    need_set_place(program, place)
    need_few(program)
    width, _ = _narrowest(program, {}, place, gone_abreast(program, {}, {}))
    return width


def together(program):
    """WIDTHS row by row, each the least that holds truly with those ahead of it."""
    places = set_places(program)
    need_few(program)
    widths = {}
    held = gone_abreast(program, {}, {})
    for place in places:
        width, held = _narrowest(program, widths, place, held)
        widths[place] = width
    return tuple([widths[place] for place in places])


def _narrowest(program, widths, place, held):
    """The least width that holds truly beside these, and the runs with it; held are those without it."""
    most = held.widest.get(place, 0)
    for width in range(most):
        tried = gone_abreast(program, {**widths, place: width}, {})
        if tried.told == held.told:
            return width, tried
    # So wide the row leaves each word as it is: nothing need be run again.
    return most, held
