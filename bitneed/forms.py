"""Programs by their form, and their places.

A PROGRAM is (WIDE, INPUTS, ROWS). Its form is what can be told row by row; a
program of right form can still be unsound, by its names or by its steps.
"""

from bitneed.errors import BadPlace, BadProgram, Unsound
from bitneed.words import is_name, is_whole

WIDEST = 12
MOST_INPUTS = 4
MOST_ROWS = 60
MOST_WITHIN = 6
MOST_ROUNDS_WITHIN = 3
MOST_GOINGS = 12
MOST_SHIFT = 11
MOST_STEPS = 2000

# A table, so that one look tells right EXPRS from others: the kinds of the
# parts that each has behind its first word.
EXPR_PARTS = {
    "number": ("word",),
    "copy": ("name",),
    "add": ("name", "name"),
    "less": ("name", "name"),
    "and": ("name", "name"),
    "or": ("name", "name"),
    "unlike": ("name", "name"),
    "same": ("name", "name"),
    "below": ("name", "name"),
    "up": ("name", "shift"),
    "down": ("name", "shift"),
    "pick": ("name", "name", "name"),
}


def is_program(thing):
    """Whether anything is a PROGRAM by its form, whatever names are there."""
    if type(thing) is not tuple or len(thing) != 3:
        return False
    wide, inputs, rows = thing
    return is_whole(wide, 1, WIDEST) and _are_inputs(inputs) and _are_rows(rows, wide)


def _are_inputs(thing):
    if type(thing) is not tuple or len(thing) > MOST_INPUTS:
        return False
    return all(is_name(name) for name in thing)


def _are_rows(thing, wide):
    waiting = [(thing, 1, 0)]
    many = 0
    while waiting:
        rows, deep, rounds = waiting.pop()
        if type(rows) is not tuple or (rows and deep > MOST_WITHIN):
            return False
        # Counted ahead of looking at them: one tuple may stand within others
        # many times over, so that all of it could hardly be gone through.
        many += len(rows)
        if many > MOST_ROWS:
            return False
        for row in rows:
            if not _is_row_alone(row, wide):
                return False
            rounds_within = rounds + 1 if row[0] == "round" else rounds
            if rounds_within > MOST_ROUNDS_WITHIN:
                return False
            for within in inner_rows(row):
                waiting.append((within, deep + 1, rounds_within))
    return True


def _is_row_alone(row, wide):
    """Whether anything is a ROW, but for what stands as the ROWS within it."""
    if type(row) is not tuple or not row or type(row[0]) is not str:
        return False
    if row[0] == "set":
        return len(row) == 3 and is_name(row[1]) and _is_expr(row[2], wide)
    if row[0] == "tell":
        return len(row) == 2 and is_name(row[1])
    if row[0] == "if":
        return len(row) == 4 and is_name(row[1])
    return row[0] == "round" and len(row) == 3 and is_whole(row[1], 0, MOST_GOINGS)


def _is_expr(thing, wide):
    if type(thing) is not tuple or not thing or type(thing[0]) is not str:
        return False
    if thing[0] not in EXPR_PARTS:
        return False
    kinds = EXPR_PARTS[thing[0]]
    if len(thing) != len(kinds) + 1:
        return False
    return all([_is_part(part, kind, wide) for part, kind in zip(thing[1:], kinds)])


def _is_part(thing, kind, wide):
    if kind == "name":
        return is_name(thing)
    if kind == "word":
        return is_whole(thing, 0, (1 << wide) - 1)
    return is_whole(thing, 0, MOST_SHIFT)


def first_wrong(program):
    """(PLACE, WHAT) of the first wrong place, None where nothing is wrong."""
    if not is_program(program):
        raise BadProgram("this is no program by its form")
    inputs, rows = program[1], program[2]
    if len(set(inputs)) < len(inputs):
        return (-1, "name")
    there = _names_by_places(program)
    for place, row in enumerate(_rows_by_places(rows)):
        if not all(name in there[place] for name in uses(row)):
            return (place, "name")
    if _steps_of_rows(rows) > MOST_STEPS:
        return (-1, "long")
    return None


def need_program(thing):
    """None; refuses what is no PROGRAM, then one that has a wrong place."""
    wrong = first_wrong(thing)
    if wrong is not None:
        place, what = wrong
        raise Unsound(place, what)


def uses(row):
    """The NAMES that a ROW uses itself, as they stand."""
    if row[0] == "round":
        return []
    return names_in(row[2]) if row[0] == "set" else [row[1]]


def names_in(expr):
    """The NAMES of an EXPR, as they stand."""
    return [part for part in expr[1:] if type(part) is str]


def _names_by_places(program):
    """A list with the rising tuple of the names that are there ahead of each place."""
    ahead = []
    _note_names(program[2], tuple(sorted(program[1])), ahead)
    return ahead


def _note_names(rows, names, ahead):
    """The names at the end of rows that begin with these; ahead takes in those of each row."""
    for row in rows:
        ahead.append(names)
        names = _names_behind(row, names, ahead)
    return names


def _names_behind(row, names, ahead):
    # The ends are asked for of a round of 0, too: its rows have places.
    ends = []
    for rows in inner_rows(row):
        ends.append(_note_names(rows, names, ahead))
    if row[0] == "set":
        return names if row[1] in names else tuple(sorted(names + (row[1],)))
    if row[0] == "if":
        return tuple([name for name in ends[0] if name in ends[1]])
    if row[0] == "round" and row[1] > 0:
        return ends[0]
    return names


def names_set(rows):
    """A dict of the NAMES that are there at the end of rows, though none is ahead of them."""
    found = {}
    for row in rows:
        if row[0] == "set":
            found[row[1]] = True
        elif row[0] == "if":
            second = names_set(row[3])
            found.update({name: True for name in names_set(row[2]) if name in second})
        elif row[0] == "round" and row[1] > 0:
            found.update(names_set(row[2]))
    return found


def _steps_of_rows(rows):
    return sum([_steps_of_row(row) for row in rows])


def _steps_of_row(row):
    within = [_steps_of_rows(rows) for rows in inner_rows(row)]
    if row[0] == "if":
        return 1 + max(within)
    if row[0] == "round":
        return 1 + row[1] * within[0]
    return 1


def inner_rows(row):
    """A tuple of the ROWS that stand within a ROW, of an if the first ones ahead."""
    return row[2:] if row[0] in ("if", "round") else ()


def _rows_by_places(rows):
    found = []
    for row in rows:
        found.append(row)
        for within in inner_rows(row):
            found.extend(_rows_by_places(within))
    return found


def need_place(program, place):
    """None; refuses as need_program, then anything that is no place of the program."""
    need_program(program)
    if not is_whole(place, 0, len(_rows_by_places(program[2])) - 1):
        raise BadPlace("this is no place of the program")


def places_of(program):
    """A list of the ROWS of a program, by places."""
    need_program(program)
    return _rows_by_places(program[2])


def set_places(program):
    """A rising list of the places of the set rows."""
    return [place for place, row in enumerate(places_of(program)) if row[0] == "set"]


def names_at(program, place):
    """A rising list of the NAMES that are there ahead of a place."""
    need_place(program, place)
    return list(_names_by_places(program)[place])


def put_at(program, place, other):
    """The program with other ROWS in the place of that one, a PROGRAM or not."""
    need_place(program, place)
    wide, inputs, rows = program
    return (wide, inputs, _put_in(rows, place, other))


def _put_in(rows, place, other):
    """The rows with other ones at that place, the first row's being 0.

    They stay as they are where the place is ahead of them or behind them.
    """
    put = []
    for row in rows:
        if place == 0:
            put.extend(other)
        else:
            put.append(_put_within(row, place - 1, other))
        place -= len(_rows_by_places((row,)))
    return tuple(put)


def _put_within(row, place, other):
    parts = []
    for rows in inner_rows(row):
        parts.append(_put_in(rows, place, other))
        place -= len(_rows_by_places(rows))
    return row[:2] + tuple(parts) if parts else row
