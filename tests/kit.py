"""What several tests share: programs, odd things, and programs made by chance."""

import itertools
import random

SET_A = ("set", "a", ("number", 1))
TELL_A = ("tell", "a")

# Each kind of row and of EXPR at least once, ifs and rounds within one another.
SAMPLE = (8, ("a", "b"), (
    ("set", "x", ("number", 1)),
    ("set", "y", ("copy", "x")),
    ("if", "a", (
        ("set", "z", ("add", "a", "b")),
        ("round", 0, (
            ("set", "v", ("less", "z", "a")),
            ("if", "v", (), (("tell", "v"),)),
        )),
    ), (
        ("set", "z", ("and", "a", "a")),
        ("set", "z", ("or", "z", "x")),
    )),
    ("round", 3, (
        ("set", "w", ("unlike", "z", "y")),
        ("set", "w", ("same", "w", "w")),
        ("round", 1, (
            ("set", "u", ("below", "w", "z")),
            ("set", "u", ("up", "u", 0)),
        )),
        ("set", "u", ("down", "u", 1)),
    )),
    ("set", "x", ("pick", "w", "u", "x")),
    ("tell", "x"),
))

# Its rows, each by the path that leads to it from its ROWS.
SAMPLE_PATHS = [
    (0,), (1,), (2,), (2, 2, 0), (2, 2, 1), (2, 2, 1, 2, 0), (2, 2, 1, 2, 1),
    (2, 2, 1, 2, 1, 3, 0), (2, 3, 0), (2, 3, 1), (3,), (3, 2, 0), (3, 2, 1),
    (3, 2, 2), (3, 2, 2, 2, 0), (3, 2, 2, 2, 1), (3, 2, 3), (4,), (5,),
]

# The names that are there ahead of each of its places.
SAMPLE_NAMES = [
    "a b", "a b x", "a b x y", "a b x y", "a b x y z", "a b x y z", "a b v x y z",
    "a b v x y z", "a b x y", "a b x y z", "a b x y z", "a b x y z", "a b w x y z",
    "a b w x y z", "a b w x y z", "a b u w x y z", "a b u w x y z", "a b u w x y z",
    "a b u w x y z",
]

SAMPLE_TEXT = """wide 8
in a b
set x number 1
set y copy x
if a
set z add a b
round 0
set v less z a
if v
else
tell v
end
end
else
set z and a a
set z or z x
end
round 3
set w unlike z y
set w same w w
round 1
set u below w z
set u up u 0
end
set u down u 1
end
set x pick w u x
tell x"""

# Each of the words an EXPR can begin with.
ALL_EXPRS = [
    ("number", 5), ("copy", "y"), ("add", "y", "z"), ("less", "y", "z"), ("and", "y", "z"),
    ("or", "y", "z"), ("unlike", "y", "z"), ("same", "y", "z"), ("below", "y", "z"),
    ("up", "y", 3), ("down", "y", 11), ("pick", "c", "y", "z"),
]

# Its names are words of programs.
WORD_NAMED = (8, ("wide", "in", "set", "number"), (
    ("set", "set", ("add", "add", "in")),
    ("if", "if", (("tell", "else"),), (("tell", "end"),)),
    ("round", 2, (("tell", "round"), ("set", "tell", ("number", 0)))),
    ("set", "pick", ("pick", "pick", "copy", "up")),
))

WORD_NAMED_TEXT = """wide 8
in wide in set number
set set add add in
if if
tell else
else
tell end
end
round 2
tell round
set tell number 0
end
set pick pick pick copy up"""


class Hostile:
    """Fails whoever compares, measures, goes through or hashes it."""

    def _fail(self, *_):
        raise AssertionError("looked into")

    __eq__ = __ne__ = __lt__ = __le__ = __gt__ = __ge__ = _fail
    __len__ = __iter__ = __getitem__ = __hash__ = __bool__ = __contains__ = _fail


class LikeAll:
    """Is equal to all that it is compared with."""

    def __eq__(self, other):
        return True

    def __hash__(self):
        return 0


class Seeming:
    """Says of itself that it is a text."""

    __class__ = str


# Each of these is wrong wherever it stands in a program.
ODD = [
    None, True, False, -1, 10 ** 30, "", "A", "a b", "a1", "a\n", "abcdefghi", b"a", b"",
    [], ["a"], {}, {"a": 1}, set(), frozenset(), range(3), len, int, tuple, object(),
    Hostile(), LikeAll(), Seeming(), ("A",), (1,), ("set", "A"), (("tell", "a"), 0),
]

NOT_PLACES = ODD + [-10 ** 30, (), "0", (0,), [0]]


def number(name, n):
    return ("set", name, ("number", n))


def copy(name, other):
    return ("set", name, ("copy", other))


def rows_of_many(many):
    return (SET_A,) * many


def one_in_another(kinds, innermost):
    """Rows within one another, the first of the kinds outermost."""
    rows = innermost
    for kind in reversed(kinds):
        rows = (("if", "a", rows, ()),) if kind == "if" else (("round", 1, rows),)
    return rows


def words_with(wide, facts):
    """All words with these FACTS."""
    zeros, ones = facts
    return [word for word in range(2 ** wide) if not word & zeros and word & ones == ones]


def all_facts(wide):
    return [(zeros, ones) for zeros in range(2 ** wide) for ones in range(2 ** wide)
            if not zeros & ones]


def facts_of_words(wide, words):
    """The bits that are the same in all of these."""
    zeros = ones = 2 ** wide - 1
    for word in words:
        zeros &= ~word
        ones &= word
    return (zeros, ones)


def worth_of(wide, kind, parts):
    """What an EXPR comes to, by words where it has names: bit by bit, as a text of bits.

    Written another way than the package does it, so that both don't err alike.
    """
    one = parts[0]
    other = parts[1] if len(parts) > 1 else None
    if kind in ("number", "copy"):
        return one
    if kind == "pick":
        return parts[2] if one == 0 else other
    if kind in ("same", "below"):
        return int(one == other if kind == "same" else one < other)
    if kind == "add":
        return (one + other) % 2 ** wide
    if kind == "less":
        return (one - other) % 2 ** wide
    bits = format(one, f"0{wide}b")
    if kind == "up":
        return int((bits + "0" * other)[-wide:], 2)
    if kind == "down":
        return int(("0" * other + bits)[:wide], 2)
    wanted = {"and": ["11"], "or": ["01", "10", "11"], "unlike": ["01", "10"]}[kind]
    pairs = zip(bits, format(other, f"0{wide}b"))
    return int("".join("1" if a + b in wanted else "0" for a, b in pairs), 2)


class Walk:
    """A run told by an interpreter of its own: what stands at each place each time it is come to.

    Each arrival is (place, what is told, set or asked there, all words ahead of the row). A turn
    says of a set row's place and word what is set instead.
    """

    def __init__(self, program, words, turn=None):
        self.wide = program[0]
        self.words = dict(zip(program[1], words))
        self.turn = turn
        self.arrivals = []
        self.tellings = []
        self.lost = set()
        self.rows(program[2], 0)

    def rows(self, rows, place):
        for row in rows:
            self.row(row, place)
            place += size_of(row)

    def row(self, row, place):
        ahead = dict(self.words)
        if row[0] == "round":
            self.arrivals.append((place, None, ahead))
            for _ in range(row[1]):
                self.rows(row[2], place + 1)
        elif row[0] == "if":
            self.arrivals.append((place, ahead[row[1]], ahead))
            if ahead[row[1]]:
                self.rows(row[2], place + 1)
            else:
                self.rows(row[3], place + 1 + sum(map(size_of, row[2])))
        elif row[0] == "tell":
            self.arrivals.append((place, ahead[row[1]], ahead))
            self.tellings.append(ahead[row[1]])
        else:
            self.set(row, place, ahead)

    def set(self, row, place, ahead):
        kind, *parts = row[2]
        parts = [ahead[part] if isinstance(part, str) else part for part in parts]
        word = worth_of(self.wide, kind, parts)
        if ((kind == "add" and sum(parts) != word) or (kind == "less" and parts[0] < parts[1])
                or (kind == "up" and word != parts[0] * 2 ** parts[1])):
            self.lost.add(place)
        if self.turn:
            word = self.turn(place, word)
        self.words[row[1]] = word
        self.arrivals.append((place, word, ahead))

    def steps(self):
        return tuple((place, word) for place, word, _ in self.arrivals if word is not None)


def size_of(row):
    """How many places a row takes, with those within it."""
    if row[0] == "if":
        return 1 + sum(map(size_of, row[2] + row[3]))
    return 1 + (sum(map(size_of, row[2])) if row[0] == "round" else 0)


def all_words(program):
    """All that can be put in."""
    return list(itertools.product(range(2 ** program[0]), repeat=len(program[1])))


def part_at(thing, path):
    for at in path:
        thing = thing[at]
    return thing


def with_part(thing, path, part):
    """The nested tuples with another part at the end of the path."""
    if not path:
        return part
    at = path[0]
    return thing[:at] + (with_part(thing[at], path[1:], part),) + thing[at + 1:]


def all_paths(thing, path=()):
    """The paths to all parts of nested tuples, itself too."""
    paths = [path]
    if isinstance(thing, tuple):
        for at, part in enumerate(thing):
            paths.extend(all_paths(part, path + (at,)))
    return paths


def as_lists(thing):
    return [as_lists(part) for part in thing] if isinstance(thing, tuple) else thing


class Maker:
    """Makes programs by chance, always the same ones of one seed."""

    def __init__(self, seed):
        self.chance = random.Random(seed)
        self.left = 0

    def name(self):
        return self.chance.choice("abcd")

    def expr(self):
        return self.chance.choice([
            ("number", 1), ("copy", self.name()), ("add", self.name(), self.name()),
            ("up", self.name(), 2), ("pick", self.name(), self.name(), self.name()),
        ])

    def row(self, deep):
        self.left -= 1
        kind = self.chance.choice(["set", "set", "set", "tell", "if", "if", "round"])
        if kind == "set" or (deep == 4 and kind != "tell"):
            return ("set", self.name(), self.expr())
        if kind == "tell":
            return ("tell", self.name())
        if kind == "if":
            return ("if", self.name(), self.rows(deep + 1), self.rows(deep + 1))
        return ("round", self.chance.choice([0, 1, 2]), self.rows(deep + 1))

    def rows(self, deep):
        many = self.chance.choice([0, 1, 2, 3])
        return tuple(self.row(deep) for _ in range(many) if self.left > 0)

    def program(self):
        self.left = 12
        inputs = tuple(self.chance.sample("abcd", self.chance.choice([0, 1, 2, 3, 4])))
        return (4, inputs, self.rows(1))


class SoundMaker:
    """Makes sound programs by chance, always the same ones of one seed."""

    NAMES = "abcdef"

    def __init__(self, seed, wide, inputs):
        self.chance = random.Random(seed)
        self.wide = wide
        self.inputs = tuple(self.chance.sample(self.NAMES, inputs))
        self.left = self.chance.choice([3, 6, 10, 14])

    def expr(self, there):
        names = [self.chance.choice(there) for _ in range(3)] if there else []
        kind = self.chance.choice(ALL_EXPRS)[0] if there else "number"
        if kind == "number":
            return (kind, self.chance.choice([0, 1, self.chance.randrange(2 ** self.wide)])
                    % 2 ** self.wide)
        if kind in ("up", "down"):
            return (kind, names[0], self.chance.choice([0, 1, 1, self.wide - 1, min(self.wide, 11), 11]))
        return (kind,) + tuple(names[:{"copy": 1, "pick": 3}.get(kind, 2)])

    def row(self, there, deep, rounds):
        """A row, and the names that are there behind it."""
        self.left -= 1
        kind = self.chance.choice(["set"] * 4 + ["tell", "if", "if", "round"])
        if kind == "round" and rounds < 3 and deep < 5:
            n = self.chance.choice([0, 1, 2, 3])
            rows, end = self.rows(there, deep + 1, rounds + 1)
            return ("round", n, rows), end if n else there
        if kind == "if" and there and deep < 5:
            first, one = self.rows(there, deep + 1, rounds)
            second, other = self.rows(there, deep + 1, rounds)
            return (("if", self.chance.choice(there), first, second),
                    [name for name in one if name in other])
        if kind == "tell" and there:
            return ("tell", self.chance.choice(there)), there
        name = self.chance.choice(self.NAMES)
        row = ("set", name, self.expr(there))
        return row, there if name in there else there + [name]

    def rows(self, there, deep, rounds):
        rows = []
        for _ in range(self.chance.choice([0, 1, 2, 3]) if deep > 1 else self.left):
            if self.left > 0:
                row, there = self.row(there, deep, rounds)
                rows.append(row)
        return tuple(rows), there

    def program(self):
        rows, there = self.rows(list(self.inputs), 1, 0)
        told = (("tell", self.chance.choice(there)),) if there else ()
        return (self.wide, self.inputs, rows + told)


def sound_programs(many, most_bits=6):
    """Sound programs by chance, of which all that can be put in is soon gone through."""
    chance = random.Random(many)
    made = []
    for seed in range(many):
        wide = chance.choice([1, 2, 2, 3, 3, 4])
        inputs = min(chance.choice([0, 1, 1, 2, 2, 3, 4]), most_bits // wide)
        made.append(SoundMaker(seed, wide, inputs).program())
    return made
