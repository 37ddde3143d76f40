"""Programs by their form, and their places.

A PROGRAM is (WIDE, INPUTS, ROWS). Its form is what can be told row by row; a
program of right form can still be unsound, by its names or by its steps.
"""

from bitneed.errors import BadPlace, BadProgram, Unsound
from bitneed.words import are_names, is_whole

WIDEST = 12
MOST_INPUTS = 4
MOST_ROWS = 60
MOST_WITHIN = 6
MOST_ROUNDS_WITHIN = 3
MOST_GOINGS = 12
MOST_SHIFT = 11
MOST_STEPS = 2000

# A table, so that one look tells right EXPRS from others: the kinds of the
# parts that each has behind its first word. A number stands last alone.
EXPR_PARTS = {
    "number": ("word",),
    "copy": ("name",),
    "add": ("name", "name"),
    "less": ("name", "name"),
    "and": ("name", "name"),
    "or": ("name", "name"),
    "unlike": ("name", "name"),
    "same": ("name", "name"),
    "below": ("name", "name"),
    "up": ("name", "shift"),
    "down": ("name", "shift"),
    "pick": ("name", "name", "name"),
}


def is_program(thing):
    """Whether anything is a PROGRAM by its form, whatever names are there."""
    if type(thing) is not tuple or len(thing) != 3:
        return False
    wide, inputs, rows = thing
    if not is_whole(wide, 1, WIDEST) or type(inputs) is not tuple or len(inputs) > MOST_INPUTS:
        return False
    form = Form(wide, inputs)
    return form.has_rows(rows, 1, 0) and are_names(form.names)


class Form:
    """A going through anything that stands for ROWS.

    What stands where NAMES are wanted is only gathered: most of them stand there
    again and again, so that they are looked at together, each once.
    """

    def __init__(self, wide, inputs):
        self.most = (1 << wide) - 1
        self.names = list(inputs)
        self.many = 0

    def has_rows(self, rows, deep, rounds):
        """Whether these are ROWS that can stand so deep, within so many rounds."""
        if type(rows) is not tuple or (rows and deep > MOST_WITHIN):
            return False
        # Counted ahead of looking at them: one tuple may stand within others
        # many times over, so that all of it could hardly be gone through.
        self.many += len(rows)
        if self.many > MOST_ROWS:
            return False
        for row in rows:
            if type(row) is not tuple or len(row) < 2 or type(row[0]) is not str:
                return False
            if row[0] == "set":
                right = len(row) == 3 and self.has_expr(row[2])
            elif row[0] == "tell":
                right = len(row) == 2
            else:
                right = self.has_within(row, deep, rounds)
            if not right:
                return False
            if row[0] != "round":
                self.names.append(row[1])
        return True

    def has_within(self, row, deep, rounds):
        if row[0] == "if":
            return (len(row) == 4 and self.has_rows(row[2], deep + 1, rounds)
                    and self.has_rows(row[3], deep + 1, rounds))
        if row[0] != "round" or len(row) != 3 or rounds == MOST_ROUNDS_WITHIN:
            return False
        return is_whole(row[1], 0, MOST_GOINGS) and self.has_rows(row[2], deep + 1, rounds + 1)

    def has_expr(self, expr):
        if type(expr) is not tuple or not expr or type(expr[0]) is not str:
            return False
        kinds = EXPR_PARTS.get(expr[0], ())
        if not kinds or len(expr) != len(kinds) + 1:
            return False
        if kinds[-1] == "name":
            self.names.extend(expr[1:])
            return True
        self.names.extend(expr[1:-1])
        return is_whole(expr[-1], 0, self.most if kinds[-1] == "word" else MOST_SHIFT)


def first_wrong(program):
    """(PLACE, WHAT) of the first wrong place, None where nothing is wrong."""
    if not is_program(program):
        raise BadProgram("this is no program by its form")
    return Look(program, None).wrong


def need_program(thing):
    """None; refuses what is no PROGRAM, then one that has a wrong place."""
    _looked_at(thing, None)


def _looked_at(program, wanted):
    """A look at a program, which is refused as need_program does."""
    if not is_program(program):
        raise BadProgram("this is no program by its form")
    look = Look(program, wanted)
    if look.wrong is not None:
        place, what = look.wrong
        raise Unsound(place, what)
    return look


class Look:
    """A look at a program of right form: its rows by places, and what is wrong first.

    Of the place that is wanted it has the names that are there ahead.
    """

    def __init__(self, program, wanted):
        self.rows = []
        self.behind = []
        self.wanted = wanted
        self.names = []
        self.wrong_place = None
        there = {name: True for name in program[1]}
        many = self.go_through(program[2], dict(there))
        self.wrong = self.first_of_all(len(there) < len(program[1]), many > MOST_STEPS)

    def first_of_all(self, are_alike, is_long):
        if are_alike:
            return (-1, "name")
        if self.wrong_place is not None:
            return (self.wrong_place, "name")
        return (-1, "long") if is_long else None

    def go_through(self, rows, there):
        """The STEPS of rows; there takes in the names that they set."""
        steps = len(rows)
        for row in rows:
            place = len(self.rows)
            self.rows.append(row)
            self.behind.append(place + 1)
            if place == self.wanted:
                self.names = sorted(there)
            if row[0] == "set":
                for part in row[2][1:]:
                    if part not in there and type(part) is str:
                        self.note_wrong(place)
                there[row[1]] = True
                continue
            if row[0] != "round" and row[1] not in there:
                self.note_wrong(place)
            if row[0] != "tell":
                steps += self.go_within(row, there)
                self.behind[place] = len(self.rows)
        return steps

    def go_within(self, row, there):
        first = dict(there)
        steps = self.go_through(row[2], first)
        if row[0] == "round":
            if row[1] > 0:
                there.update(first)
            return steps * row[1]
        second = dict(there)
        others = self.go_through(row[3], second)
        for name in first:
            if name in second:
                there[name] = True
        return max(steps, others)

    def note_wrong(self, place):
        if self.wrong_place is None:
            self.wrong_place = place

    def put_in(self, rows, first, place, many, other):
        """The rows with others for so many from the place on; first is the place of the first one."""
        at = 0
        while self.behind[first] <= place:
            first = self.behind[first]
            at += 1
        if first != place:
            other = (self.put_within(rows[at], first + 1, place, many, other),)
            many = 1
        return rows[:at] + other + rows[at + many:]

    def put_within(self, row, first, place, many, other):
        second = first
        for _ in row[2]:
            second = self.behind[second]
        if place < second:
            return row[:2] + (self.put_in(row[2], first, place, many, other),) + row[3:]
        return row[:3] + (self.put_in(row[3], second, place, many, other),)


def uses(row):
    """The NAMES that a ROW uses itself, as they stand."""
    if row[0] == "round":
        return []
    return names_in(row[2]) if row[0] == "set" else [row[1]]


def names_in(expr):
    """The NAMES of an EXPR, as they stand."""
    return [part for part in expr[1:] if type(part) is str]


def names_set(rows):
    """A dict of the NAMES that are there at the end of rows, though none is ahead of them."""
    found = {}
    for row in rows:
        if row[0] == "set":
            found[row[1]] = True
        elif row[0] == "if":
            second = names_set(row[3])
            found.update({name: True for name in names_set(row[2]) if name in second})
        elif row[0] == "round" and row[1] > 0:
            found.update(names_set(row[2]))
    return found


def inner_rows(row):
    """A tuple of the ROWS that stand within a ROW, of an if the first ones ahead."""
    return row[2:] if row[0] in ("if", "round") else ()


def places_of(program):
    """A list of the ROWS of a program, by places."""
    return _looked_at(program, None).rows


def set_places(program):
    """A rising list of the places of the set rows."""
    return [place for place, row in enumerate(places_of(program)) if row[0] == "set"]


def need_place(program, place):
    """None; refuses as need_program, then anything that is no place of the program."""
    _looked_at_place(program, place)


def need_set_place(program, place):
    """None; refuses as need_place, then a place at which no set row stands."""
    look = _looked_at_place(program, place)
    if look.rows[place][0] != "set":
        raise BadPlace("no set row stands at this place")


def _looked_at_place(program, place):
    """A look at a program for a place, both refused as need_place does."""
    # Nothing but a number is compared with places.
    look = _looked_at(program, place if type(place) is int else None)
    if not is_whole(place, 0, len(look.rows) - 1):
        raise BadPlace("this is no place of the program")
    return look


def names_at(program, place):
    """A rising list of the NAMES that are there ahead of a place."""
    return _looked_at_place(program, place).names


def put_at(program, place, other):
    """The program with other ROWS in the place of that one, a PROGRAM or not."""
    return put_for(program, place, 1, tuple(other))


def put_for(program, place, many, other):
    """As put_at, in the place of so many that stand there behind one another in the same ROWS."""
    look = _looked_at_place(program, place)
    wide, inputs, rows = program
    return (wide, inputs, look.put_in(rows, 0, place, many, other))
