"""What several tests share: programs, odd things, and programs made by chance."""

import random

SET_A = ("set", "a", ("number", 1))
TELL_A = ("tell", "a")

# Each kind of row and of EXPR at least once, ifs and rounds within one another.
SAMPLE = (8, ("a", "b"), (
    ("set", "x", ("number", 1)),
    ("set", "y", ("copy", "x")),
    ("if", "a", (
        ("set", "z", ("add", "a", "b")),
        ("round", 0, (
            ("set", "v", ("less", "z", "a")),
            ("if", "v", (), (("tell", "v"),)),
        )),
    ), (
        ("set", "z", ("and", "a", "a")),
        ("set", "z", ("or", "z", "x")),
    )),
    ("round", 3, (
        ("set", "w", ("unlike", "z", "y")),
        ("set", "w", ("same", "w", "w")),
        ("round", 1, (
            ("set", "u", ("below", "w", "z")),
            ("set", "u", ("up", "u", 0)),
        )),
        ("set", "u", ("down", "u", 1)),
    )),
    ("set", "x", ("pick", "w", "u", "x")),
    ("tell", "x"),
))

# Its rows, each by the path that leads to it from its ROWS.
SAMPLE_PATHS = [
    (0,), (1,), (2,), (2, 2, 0), (2, 2, 1), (2, 2, 1, 2, 0), (2, 2, 1, 2, 1),
    (2, 2, 1, 2, 1, 3, 0), (2, 3, 0), (2, 3, 1), (3,), (3, 2, 0), (3, 2, 1),
    (3, 2, 2), (3, 2, 2, 2, 0), (3, 2, 2, 2, 1), (3, 2, 3), (4,), (5,),
]

# The names that are there ahead of each of its places.
SAMPLE_NAMES = [
    "a b", "a b x", "a b x y", "a b x y", "a b x y z", "a b x y z", "a b v x y z",
    "a b v x y z", "a b x y", "a b x y z", "a b x y z", "a b x y z", "a b w x y z",
    "a b w x y z", "a b w x y z", "a b u w x y z", "a b u w x y z", "a b u w x y z",
    "a b u w x y z",
]

SAMPLE_TEXT = """wide 8
in a b
set x number 1
set y copy x
if a
set z add a b
round 0
set v less z a
if v
else
tell v
end
end
else
set z and a a
set z or z x
end
round 3
set w unlike z y
set w same w w
round 1
set u below w z
set u up u 0
end
set u down u 1
end
set x pick w u x
tell x"""

# Each of the words an EXPR can begin with.
ALL_EXPRS = [
    ("number", 5), ("copy", "y"), ("add", "y", "z"), ("less", "y", "z"), ("and", "y", "z"),
    ("or", "y", "z"), ("unlike", "y", "z"), ("same", "y", "z"), ("below", "y", "z"),
    ("up", "y", 3), ("down", "y", 11), ("pick", "c", "y", "z"),
]

# Its names are words of programs.
WORD_NAMED = (8, ("wide", "in", "set", "number"), (
    ("set", "set", ("add", "add", "in")),
    ("if", "if", (("tell", "else"),), (("tell", "end"),)),
    ("round", 2, (("tell", "round"), ("set", "tell", ("number", 0)))),
    ("set", "pick", ("pick", "pick", "copy", "up")),
))

WORD_NAMED_TEXT = """wide 8
in wide in set number
set set add add in
if if
tell else
else
tell end
end
round 2
tell round
set tell number 0
end
set pick pick pick copy up"""


class Hostile:
    """Fails whoever compares, measures, goes through or hashes it."""

    def _fail(self, *_):
        raise AssertionError("looked into")

    __eq__ = __ne__ = __lt__ = __le__ = __gt__ = __ge__ = _fail
    __len__ = __iter__ = __getitem__ = __hash__ = __bool__ = __contains__ = _fail


class LikeAll:
    """Is equal to all that it is compared with."""

    def __eq__(self, other):
        return True

    def __hash__(self):
        return 0


class Seeming:
    """Says of itself that it is a text."""

    __class__ = str


# Each of these is wrong wherever it stands in a program.
ODD = [
    None, True, False, -1, 10 ** 30, "", "A", "a b", "a1", "a\n", "abcdefghi", b"a", b"",
    [], ["a"], {}, {"a": 1}, set(), frozenset(), range(3), len, int, tuple, object(),
    Hostile(), LikeAll(), Seeming(), ("A",), (1,), ("set", "A"), (("tell", "a"), 0),
]

NOT_PLACES = ODD + [-10 ** 30, (), "0", (0,), [0]]


def rows_of_many(many):
    return (SET_A,) * many


def one_in_another(kinds, innermost):
    """Rows within one another, the first of the kinds outermost."""
    rows = innermost
    for kind in reversed(kinds):
        rows = (("if", "a", rows, ()),) if kind == "if" else (("round", 1, rows),)
    return rows


def words_with(wide, facts):
    """All words with these FACTS."""
    zeros, ones = facts
    return [word for word in range(2 ** wide) if not word & zeros and word & ones == ones]


def all_facts(wide):
    return [(zeros, ones) for zeros in range(2 ** wide) for ones in range(2 ** wide)
            if not zeros & ones]


def facts_of_words(wide, words):
    """The bits that are the same in all of these."""
    zeros = ones = 2 ** wide - 1
    for word in words:
        zeros &= ~word
        ones &= word
    return (zeros, ones)


def worth_of(wide, kind, parts):
    """What an EXPR comes to, by words where it has names: bit by bit, as a text of bits.

    Written another way than the package does it, so that both don't err alike.
    """
    one = parts[0]
    other = parts[1] if len(parts) > 1 else None
    if kind in ("number", "copy"):
        return one
    if kind == "pick":
        return parts[2] if one == 0 else other
    if kind in ("same", "below"):
        return int(one == other if kind == "same" else one < other)
    if kind == "add":
        return (one + other) % 2 ** wide
    if kind == "less":
        return (one - other) % 2 ** wide
    bits = format(one, f"0{wide}b")
    if kind == "up":
        return int((bits + "0" * other)[-wide:], 2)
    if kind == "down":
        return int(("0" * other + bits)[:wide], 2)
    wanted = {"and": ["11"], "or": ["01", "10", "11"], "unlike": ["01", "10"]}[kind]
    pairs = zip(bits, format(other, f"0{wide}b"))
    return int("".join("1" if a + b in wanted else "0" for a, b in pairs), 2)


def part_at(thing, path):
    for at in path:
        thing = thing[at]
    return thing


def with_part(thing, path, part):
    """The nested tuples with another part at the end of the path."""
    if not path:
        return part
    at = path[0]
    return thing[:at] + (with_part(thing[at], path[1:], part),) + thing[at + 1:]


def all_paths(thing, path=()):
    """The paths to all parts of nested tuples, itself too."""
    paths = [path]
    if isinstance(thing, tuple):
        for at, part in enumerate(thing):
            paths.extend(all_paths(part, path + (at,)))
    return paths


def as_lists(thing):
    return [as_lists(part) for part in thing] if isinstance(thing, tuple) else thing


class Maker:
    """Makes programs by chance, always the same ones of one seed."""

    def __init__(self, seed):
        self.chance = random.Random(seed)
        self.left = 0

    def name(self):
        return self.chance.choice("abcd")

    def expr(self):
        return self.chance.choice([
            ("number", 1), ("copy", self.name()), ("add", self.name(), self.name()),
            ("up", self.name(), 2), ("pick", self.name(), self.name(), self.name()),
        ])

    def row(self, deep):
        self.left -= 1
        kind = self.chance.choice(["set", "set", "set", "tell", "if", "if", "round"])
        if kind == "set" or (deep == 4 and kind != "tell"):
            return ("set", self.name(), self.expr())
        if kind == "tell":
            return ("tell", self.name())
        if kind == "if":
            return ("if", self.name(), self.rows(deep + 1), self.rows(deep + 1))
        return ("round", self.chance.choice([0, 1, 2]), self.rows(deep + 1))

    def rows(self, deep):
        many = self.chance.choice([0, 1, 2, 3])
        return tuple(self.row(deep) for _ in range(many) if self.left > 0)

    def program(self):
        self.left = 12
        inputs = tuple(self.chance.sample("abcd", self.chance.choice([0, 1, 2, 3, 4])))
        return (4, inputs, self.rows(1))
