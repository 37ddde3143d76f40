"""RULES, by which programs are told otherwise at a place, and tell the same."""

from bitneed.errors import BadAsked
from bitneed.forms import first_wrong, is_program, need_place, need_program, places_of, put_for
from bitneed.placed import placed_rows, rows_from

LETTERS = "abcdefghijklmnopqrstuvwxyz"
TWINS = ("add", "and", "or", "unlike", "same")


def rewritten(program, rule, place):
    """The PROGRAM told otherwise by a RULE at a place, None where it doesn't fit."""
    need_program(program)
    if type(rule) is not str or rule not in ACTION_BY_RULE:
        raise BadAsked("this is no rule")
    need_place(program, place)
    placed, _ = placed_rows(program)
    action = ACTION_BY_RULE[rule]
    other = action(program, place, [row for _, row, _ in rows_from(placed, place)])
    # Also None, which is no program, where the rule doesn't fit.
    return other if is_program(other) and first_wrong(other) is None else None


def same_but_names(one, other):
    """Whether two programs are the same but for names."""
    need_program(one)
    need_program(other)
    return _named_anew(one) == _named_anew(other)


# What each RULE makes of a program, None where it doesn't fit. All are asked
# alike: by the program, the place, and the ROWS from there on, in the same ROWS.

def _names(program, place, rows):
    return _named_anew(program) if place == 0 else None


def _more(program, place, rows):
    there = _names_in_order(program)
    at = 0
    while _word(at) in there:
        at += 1
    return put_for(program, place, 1, (("set", _word(at), ("number", 0)), rows[0]))


def _twin(program, place, rows):
    row = rows[0]
    if row[0] != "set" or row[2][0] not in TWINS:
        return None
    kind, y, z = row[2]
    return put_for(program, place, 1, (("set", row[1], (kind, z, y)),))


def _one(program, place, rows):
    row = rows[0]
    if row[0] != "round" or row[1] != 1:
        return None
    return put_for(program, place, 1, row[2])


def _turn(program, place, rows):
    row = rows[0]
    if row[0] != "round" or row[1] == 0:
        return None
    return put_for(program, place, 1, row[2] + (("round", row[1] - 1, row[2]),))


def _choose(program, place, rows):
    row = rows[0]
    if row[0] != "set" or row[2][0] != "pick":
        return None
    _, c, y, z = row[2]
    first, second = ("set", row[1], ("copy", y)), ("set", row[1], ("copy", z))
    return put_for(program, place, 1, (("if", c, (first,), (second,)),))


def _into(program, place, rows):
    if rows[0][0] != "if" or len(rows) == 1:
        return None
    _, name, first, second = rows[0]
    return put_for(program, place, 2, (("if", name, first + (rows[1],), second + (rows[1],)),))


ACTION_BY_RULE = {
    "names": _names,
    "more": _more,
    "twin": _twin,
    "one": _one,
    "turn": _turn,
    "choose": _choose,
    "into": _into,
}


def _word(at):
    """That one, from 0, of the words a, b, .., z, aa, ab, .."""
    # No program has so many names that a third letter is wanted.
    return LETTERS[at] if at < 26 else LETTERS[at // 26 - 1] + LETTERS[at % 26]


def _names_in_order(program):
    """A list of the NAMES of a program, each once, as they stand first."""
    # A name that is used is an INPUT, or stood in a set row ahead as what it sets.
    found = {name: True for name in program[1]}
    for row in places_of(program):
        if row[0] == "set":
            found[row[1]] = True
    return list(found)


def _named_anew(program):
    """The program with its names by their order alone."""
    wide, inputs, rows = program
    names = {name: _word(at) for at, name in enumerate(_names_in_order(program))}
    return (wide, tuple([names[name] for name in inputs]), _rows_named(rows, names))


def _rows_named(rows, names):
    return tuple([_row_named(row, names) for row in rows])


def _row_named(row, names):
    if row[0] == "set":
        return ("set", names[row[1]], tuple([row[2][0]] + _parts_named(row[2], names)))
    ways = tuple([_rows_named(way, names) for way in row[2:]])
    return (row[0], row[1] if row[0] == "round" else names[row[1]]) + ways


def _parts_named(expr, names):
    return [names[part] if type(part) is str else part for part in expr[1:]]
