import itertools
import random
import unittest

from bitneed.errors import BadAsked, BadPlace, BadProgram, Unsound
from bitneed.forms import first_wrong, is_program, places_of
from bitneed.rules import rewritten, same_but_names
from tests.kit import (NOT_PLACES, ODD, SAMPLE, SET_A, TELL_A, SoundMaker, Walk, all_words, copy,
                       number, one_in_another, rows_of_many, size_of, sound_programs)

RULES = ["names", "more", "twin", "one", "turn", "choose", "into"]
TELL_B = ("tell", "b")

# Forty-two ROWS of 2,000 STEPS.
MOST_STEPS = (("round", 12, (("round", 12, (SET_A,) * 12),)), ("round", 12, (SET_A,) * 21)) + (SET_A,) * 6


def words_in_order():
    """The words a, b, .., z, aa, ab, .., without end."""
    for many in itertools.count(1):
        for letters in itertools.product("abcdefghijklmnopqrstuvwxyz", repeat=many):
            yield "".join(letters)


def names_in_order(program):
    """An oracle: all names as they stand in a text, which has rows and names in their order."""
    found = list(program[1])

    def look(rows):
        for row in rows:
            if row[0] != "round":
                found.append(row[1])
            if row[0] == "set":
                found.extend(part for part in row[2][1:] if isinstance(part, str))
            for way in row[2:] if row[0] in ("if", "round") else ():
                look(way)

    look(program[2])
    return list(dict.fromkeys(found))


def named(rows, names):
    """Rows with other names, an oracle: kinds and numbers stay."""
    told = []
    for row in rows:
        if row[0] == "set":
            kind, *parts = row[2]
            told.append(("set", names[row[1]], (kind, *[names.get(part, part) for part in parts])))
        elif row[0] == "round":
            told.append(("round", row[1], named(row[2], names)))
        else:
            told.append((row[0], names[row[1]]) + tuple(named(way, names) for way in row[2:]))
    return tuple(told)


class Rules:
    """An oracle: the program gone through anew, and put together otherwise where the place comes."""

    def __init__(self, program, rule, place):
        self.wide, self.inputs, rows = program
        self.names = names_in_order(program)
        self.rule = rule
        self.wanted = place
        self.fits = False
        if rule == "names":
            self.fits = place == 0
            new = dict(zip(self.names, words_in_order()))
            self.inputs = tuple(new[name] for name in self.inputs)
            self.rows = named(rows, new)
        else:
            self.rows = self.told(rows, 0)

    def program(self):
        other = (self.wide, self.inputs, self.rows)
        right = self.fits and is_program(other) and first_wrong(other) is None
        return other if right else None

    def told(self, rows, place):
        made, rows = [], list(rows)
        while rows:
            row = rows.pop(0)
            after = place + size_of(row)
            if place == self.wanted:
                told = getattr(self, self.rule)(row, rows)
                self.fits = told is not None
                made.extend(told if self.fits else [row])
            elif place < self.wanted < after and row[0] == "round":
                made.append(row[:2] + (self.told(row[2], place + 1),))
            elif place < self.wanted < after:
                second = place + 1 + sum(map(size_of, row[2]))
                made.append(row[:2] + (self.told(row[2], place + 1), self.told(row[3], second)))
            else:
                made.append(row)
            place = after
        return tuple(made)

    def more(self, row, behind):
        name = next(word for word in words_in_order() if word not in self.names)
        return [number(name, 0), row]

    def twin(self, row, behind):
        if row[0] == "set" and row[2][0] in "add and or unlike same".split():
            return [("set", row[1], (row[2][0], row[2][2], row[2][1]))]

    def one(self, row, behind):
        if row[:2] == ("round", 1):
            return list(row[2])

    def turn(self, row, behind):
        if row[0] == "round" and row[1]:
            return [*row[2], ("round", row[1] - 1, row[2])]

    def choose(self, row, behind):
        if row[0] == "set" and row[2][0] == "pick":
            _, c, y, z = row[2]
            return [("if", c, (copy(row[1], y),), (copy(row[1], z),))]

    def into(self, row, behind):
        if row[0] == "if" and behind:
            taken = behind.pop(0)
            return [("if", row[1], row[2] + (taken,), row[3] + (taken,))]


class RulesTest(unittest.TestCase):
    def comes(self, rule, place, rows, *wanted, inputs=("a", "b")):
        program = (4, inputs, tuple(rows))
        self.assertIsNone(first_wrong(program))
        self.assertEqual(rewritten(program, rule, place), (4, inputs, wanted))

    def does_not_fit(self, rule, rows, *places, inputs=("a", "b")):
        program = (4, inputs, tuple(rows))
        self.assertIsNone(first_wrong(program))
        for place in places or range(len(places_of(program))):
            self.assertIsNone(rewritten(program, rule, place))


class Names(RulesTest):
    def names(self, program, wanted):
        self.assertEqual(rewritten(program, "names", 0), wanted)

    def test_in_the_order_in_which_they_stand_first(self):
        rows = (("set", "x", ("add", "b", "y")), ("if", "b", (copy("z", "x"),), (("tell", "y"),)))
        self.names((4, ("y", "b"), rows), (4, ("a", "b"), (
            ("set", "c", ("add", "b", "a")), ("if", "b", (copy("d", "c"),), (TELL_A,)))))

    def test_x_stands_ahead_of_the_names_in_its_expr(self):
        rows = (number("q", 1), ("set", "r", ("unlike", "q", "s")), ("tell", "r"))
        self.names((4, ("s",), rows), (4, ("a",), (
            number("b", 1), ("set", "c", ("unlike", "b", "a")), ("tell", "c"))))
        rows = (number("q", 1), ("round", 2, (copy("p", "q"), number("q", 2))))
        self.names((4, (), rows), (4, (), (
            number("a", 1), ("round", 2, (copy("b", "a"), number("a", 2))))))

    def test_first_rows_ahead_of_second_ones(self):
        rows = (("if", "k", (number("z", 1),), (number("y", 1), number("z", 2))), ("tell", "z"))
        self.names((4, ("k",), rows), (4, ("a",), (
            ("if", "a", (number("b", 1),), (number("c", 1), number("b", 2))), ("tell", "b"))))

    def test_names_so_called_already(self):
        rows = (number("c", 1), TELL_A)
        self.names((4, ("a", "b"), rows), (4, ("a", "b"), rows))

    def test_names_exchanged(self):
        self.names((4, ("b", "a"), (TELL_A, TELL_B)), (4, ("a", "b"), (TELL_B, TELL_A)))

    def test_words_of_the_text_are_names_like_others(self):
        rows = (("set", "copy", ("copy", "set")), ("tell", "copy"))
        self.names((4, ("set",), rows), (4, ("a",), (copy("b", "a"), TELL_B)))

    def test_more_than_twenty_six(self):
        words = [word for word, _ in zip(words_in_order(), range(64))]
        self.assertEqual(words[24:29] + words[51:54], "y z aa ab ac az ba bb".split())
        old = [f"x{first}{second}" for first in "abcdefgh" for second in "abcdefgh"]
        for many in (22, 23, 24, 30, 48, 49, 50, 60):
            program = (4, tuple(old[:4]), tuple(number(name, 1) for name in old[4:4 + many]))
            self.names(program, (4, tuple("abcd"), tuple(number(name, 1) for name in words[4:4 + many])))

    def test_at_place_0_alone(self):
        rows = (number("x", 1), ("if", "x", (("tell", "x"),), ()))
        self.does_not_fit("names", rows, 1, 2)
        with self.assertRaises(BadPlace):
            rewritten((4, ("x",), ()), "names", 0)


class More(RulesTest):
    def test_ahead_of_the_row(self):
        rows = (TELL_A, ("if", "a", (TELL_B,), ()))
        self.comes("more", 0, rows, number("c", 0), *rows)
        self.comes("more", 1, rows, TELL_A, number("c", 0), rows[1])
        self.comes("more", 2, rows, TELL_A, ("if", "a", (number("c", 0), TELL_B), ()))

    def test_the_first_word_that_is_no_name_of_the_program(self):
        rows = (number("c", 1), ("round", 0, (number("e", 1),)), TELL_A)
        self.comes("more", 3, rows, *rows[:2], number("d", 0), TELL_A)
        self.comes("more", 0, (TELL_B,), number("a", 0), TELL_B, inputs=("b",))
        self.comes("more", 0, (number("b", 1),), number("a", 0), number("b", 1), inputs=())
        rows = tuple(number(name, 1) for name in "cdefghijklmnopqrstuvwxyz")
        self.comes("more", 0, rows, number("aa", 0), *rows)
        self.comes("more", 0, rows + (number("aa", 1),), number("ab", 0), *rows, number("aa", 1))
        self.comes("more", 0, rows[:-1], number("z", 0), *rows[:-1])

    def test_too_many_rows_or_steps(self):
        self.does_not_fit("more", rows_of_many(60), 0, 30, 59)
        self.comes("more", 58, rows_of_many(59), *rows_of_many(58), number("c", 0), SET_A)
        self.assertEqual(first_wrong((4, ("a", "b"), MOST_STEPS + (SET_A,))), (-1, "long"))
        self.does_not_fit("more", MOST_STEPS)
        # With one less there is room outside of the rounds, but not within them.
        self.does_not_fit("more", MOST_STEPS[:-1], *range(1, 14), *range(15, 36))
        for place, at in ((0, 0), (14, 1), (36, 2), (40, 6)):
            self.comes("more", place, MOST_STEPS[:-1], *MOST_STEPS[:at], number("c", 0),
                       *MOST_STEPS[at:-1])

    def test_a_row_that_no_run_goes_through(self):
        rows = MOST_STEPS[:-1] + (("round", 0, (TELL_B,)),)
        self.comes("more", 42, rows, *rows[:-1], ("round", 0, (number("c", 0), TELL_B)))
        self.does_not_fit("more", rows, 41)

    def test_ahead_of_the_deepest_row(self):
        rows = one_in_another(["if"] * 5, (TELL_A,))
        self.comes("more", 5, rows, *one_in_another(["if"] * 5, (number("c", 0), TELL_A)))


class Twin(RulesTest):
    def test_names_are_exchanged(self):
        for kind in ("add", "and", "or", "unlike", "same"):
            row, other = ("set", "x", (kind, "a", "b")), ("set", "x", (kind, "b", "a"))
            self.comes("twin", 0, (row, TELL_A), other, TELL_A)
            self.comes("twin", 0, (other, TELL_A), row, TELL_A)
            same = ("set", "x", (kind, "a", "a"))
            self.comes("twin", 1, (TELL_A, same), TELL_A, same)
            self.comes("twin", 1, (("round", 2, (row,)),), ("round", 2, (other,)))

    def test_of_other_rows(self):
        exprs = [("less", "a", "b"), ("below", "a", "b"), ("pick", "a", "b", "a"), ("copy", "a"),
                 ("up", "a", 1), ("down", "a", 1), ("number", 1)]
        rows = tuple(("set", "x", expr) for expr in exprs)
        self.does_not_fit("twin", rows + (TELL_A, ("if", "a", (), ()), ("round", 1, ())))


class One(RulesTest):
    def test_a_round_of_1_is_its_rows(self):
        rows = (("round", 1, (TELL_A, SET_A)), TELL_B)
        self.comes("one", 0, rows, TELL_A, SET_A, TELL_B)
        self.comes("one", 1, (("if", "a", rows, ()),), ("if", "a", (TELL_A, SET_A, TELL_B), ()))
        self.comes("one", 0, (("round", 1, ()), TELL_B), TELL_B)
        self.comes("one", 0, (("round", 1, ()),))
        rows = (("round", 1, (("round", 1, (number("x", 1),)),)), ("tell", "x"))
        self.comes("one", 0, rows, ("round", 1, (number("x", 1),)), ("tell", "x"))
        self.comes("one", 1, rows, *rows[:0], ("round", 1, (number("x", 1),)), ("tell", "x"))

    def test_of_others(self):
        self.does_not_fit("one", (("round", 0, ()), ("round", 2, (TELL_A,)), ("round", 12, ()),
                                  ("if", "a", (), ()), TELL_A, SET_A))


class Turn(RulesTest):
    def test_its_rows_and_a_round_of_one_less(self):
        rows = (TELL_A, SET_A)
        for n in range(1, 13):
            self.comes("turn", 0, (("round", n, rows), TELL_B), *rows, ("round", n - 1, rows), TELL_B)
        self.comes("turn", 0, (("round", 2, ()),), ("round", 1, ()))
        self.comes("turn", 0, (("round", 1, ()),), ("round", 0, ()))
        self.comes("turn", 1, (("round", 3, (("round", 2, rows), TELL_B)),),
                   ("round", 3, (*rows, ("round", 1, rows), TELL_B)))

    def test_of_others(self):
        self.does_not_fit("turn", (("round", 0, (TELL_A,)), ("if", "a", (), ()), TELL_A, SET_A))

    def test_too_many_rows(self):
        self.does_not_fit("turn", (("round", 2, rows_of_many(30)),), 0)
        rows = rows_of_many(29)
        self.comes("turn", 0, (("round", 2, rows), TELL_A), *rows, ("round", 1, rows), TELL_A)
        self.does_not_fit("turn", (("round", 2, rows), TELL_A, TELL_A), 0)


class Choose(RulesTest):
    PICK = ("set", "x", ("pick", "a", "b", "a"))
    CHOICE = ("if", "a", (copy("x", "b"),), (copy("x", "a"),))

    def test_an_if_of_c(self):
        self.comes("choose", 0, (self.PICK, TELL_A), self.CHOICE, TELL_A)
        row = ("set", "a", ("pick", "a", "a", "a"))
        self.comes("choose", 0, (row,), ("if", "a", (copy("a", "a"),), (copy("a", "a"),)))
        self.comes("choose", 1, (("if", "b", (), (self.PICK,)),), ("if", "b", (), (self.CHOICE,)))

    def test_of_others(self):
        self.does_not_fit("choose", (SET_A, TELL_A, ("if", "a", (), ()), ("round", 1, ()),
                                     ("set", "x", ("add", "a", "b"))))

    def test_too_deep(self):
        for kinds in (["if"] * 5, ["round", "if", "round", "if", "round"]):
            self.does_not_fit("choose", one_in_another(kinds, (self.PICK,)), 5)
            self.comes("choose", 4, one_in_another(kinds[:4], (self.PICK,)),
                       *one_in_another(kinds[:4], (self.CHOICE,)))

    def test_too_many_rows_or_steps(self):
        self.does_not_fit("choose", rows_of_many(59) + (self.PICK,), 59)
        self.does_not_fit("choose", rows_of_many(58) + (self.PICK,), 58)
        self.comes("choose", 57, rows_of_many(57) + (self.PICK,), *rows_of_many(57), self.CHOICE)
        self.does_not_fit("choose", MOST_STEPS[:-1] + (self.PICK,), 41)
        self.comes("choose", 40, MOST_STEPS[:-2] + (self.PICK,), *MOST_STEPS[:-2], self.CHOICE)


class Into(RulesTest):
    def test_takes_in_the_row_behind_it(self):
        rows = (("if", "a", (TELL_A,), (TELL_B, SET_A)), ("round", 2, (SET_A,)), TELL_B)
        self.comes("into", 0, rows, ("if", "a", (TELL_A, rows[1]), (TELL_B, SET_A, rows[1])), TELL_B)
        self.comes("into", 0, (("if", "a", (), ()), TELL_A), ("if", "a", (TELL_A,), (TELL_A,)))
        self.comes("into", 1, (TELL_A, ("if", "a", (), ()), TELL_A, TELL_B), TELL_A,
                   ("if", "a", (TELL_A,), (TELL_A,)), TELL_B)
        other = ("if", "b", (TELL_A,), ())
        self.comes("into", 0, (("if", "a", (), ()), other), ("if", "a", (other,), (other,)))

    def test_in_the_same_rows(self):
        rows = (("if", "a", (("if", "b", (SET_A,), ()), TELL_A), ()), TELL_B)
        self.comes("into", 1, rows, ("if", "a", (("if", "b", (SET_A, TELL_A), (TELL_A,)),), ()), TELL_B)
        rows = (("if", "a", (), (("if", "b", (SET_A,), ()), TELL_A)), TELL_B)
        self.comes("into", 1, rows, ("if", "a", (), (("if", "b", (SET_A, TELL_A), (TELL_A,)),)), TELL_B)
        rows = (("round", 2, (("if", "b", (), ()), TELL_A)), TELL_B)
        self.comes("into", 1, rows, ("round", 2, (("if", "b", (TELL_A,), (TELL_A,)),)), TELL_B)

    def test_none_behind_it(self):
        self.does_not_fit("into", (("if", "a", (TELL_A,), ()),), 0)
        # Rows stand behind the one around it, but not in the same ROWS.
        self.does_not_fit("into", (("if", "a", (("if", "b", (), ()),), ()), TELL_A), 1)
        self.does_not_fit("into", (("round", 2, (TELL_A, ("if", "b", (), ()))), TELL_A), 2)
        self.does_not_fit("into", (("if", "a", (("if", "b", (), ()),), (TELL_A,)), TELL_A), 1)

    def test_of_others(self):
        self.does_not_fit("into", (SET_A, TELL_A, ("round", 1, (TELL_A,)), TELL_A))

    def test_names_that_both_ways_set(self):
        rows = (("if", "a", (number("x", 1),), (number("x", 2),)), copy("y", "x"), ("tell", "y"))
        self.comes("into", 0, rows, ("if", "a", (number("x", 1), rows[1]), (number("x", 2), rows[1])),
                   rows[2])

    def test_too_deep(self):
        deep = one_in_another(["if"] * 5, (TELL_A,))
        self.does_not_fit("into", (("if", "a", (), ()),) + deep, 0)
        deep = one_in_another(["if"] * 4, (TELL_A,))
        self.comes("into", 0, (("if", "a", (), ()),) + deep, ("if", "a", deep, deep))
        rows = one_in_another(["if"] * 5, (("if", "a", (), ()), TELL_A))
        self.does_not_fit("into", rows, 5)

    def test_too_many_rows(self):
        rows = (("if", "a", rows_of_many(29), ()), ("round", 1, rows_of_many(14)))
        self.does_not_fit("into", rows + (TELL_A,), 0)
        self.comes("into", 0, rows, ("if", "a", rows[0][2] + rows[1:], rows[1:]))


class ByChance(unittest.TestCase):
    PROGRAMS = sound_programs(320, 5)

    def test_each_rule_at_each_place(self):
        fits = {rule: 0 for rule in RULES}
        for program in self.PROGRAMS + [SAMPLE]:
            for place in range(len(places_of(program))):
                for rule in RULES:
                    wanted = Rules(program, rule, place).program()
                    self.assertEqual(rewritten(program, rule, place), wanted, (rule, place, program))
                    fits[rule] += wanted is not None
        self.assertGreater(min(fits.values()), 40)

    def test_the_same_is_told(self):
        for program in self.PROGRAMS:
            tellings = [Walk(program, words).tellings for words in all_words(program)[:16]]
            for place in range(len(places_of(program))):
                for rule in RULES:
                    other = rewritten(program, rule, place)
                    if other is not None:
                        self.assertIsNone(first_wrong(other))
                        self.assertEqual(other[0], program[0])
                        self.assertEqual([Walk(other, words).tellings
                                          for words in all_words(other)[:16]], tellings)

    def test_one_rule_behind_another(self):
        chance = random.Random(45)
        for program in self.PROGRAMS[:120]:
            told, many = program, 0
            for _ in range(30):
                if places_of(told):
                    place = chance.randrange(len(places_of(told)))
                    other = rewritten(told, chance.choice(RULES), place)
                    many += other is not None
                    told = other or told
            for words in all_words(program)[:16]:
                self.assertEqual(Walk(told, words).tellings, Walk(program, words).tellings)


class SameButNames(unittest.TestCase):
    def test_the_same_but_for_names(self):
        rows = (number("x", 1), ("if", "x", (TELL_A,), ()), ("tell", "x"))
        other = (number("a", 1), ("if", "a", (("tell", "x"),), ()), TELL_A)
        for one, two, told in (
                ((4, ("a",), rows), (4, ("a",), rows), True),
                ((4, ("a",), rows), (4, ("x",), other), True),
                ((4, ("a",), rows), (5, ("a",), rows), False),
                ((4, ("a",), rows), (4, ("a", "b"), rows), False),
                ((4, ("a", "b"), (TELL_A,)), (4, ("b", "a"), (TELL_B,)), True),
                ((4, ("a", "b"), (TELL_A,)), (4, ("a", "b"), (TELL_B,)), False),
                ((4, ("a", "b"), (TELL_A, TELL_B)), (4, ("a", "b"), (TELL_A, TELL_A)), False),
                ((4, ("a",), (number("x", 1),)), (4, ("a",), (number("x", 2),)), False),
                ((4, ("a",), (number("x", 1),)), (4, ("a",), (number("a", 1),)), False),
                ((4, ("a",), (number("x", 1),)), (4, ("aaaaaaaa",), (number("zz", 1),)), True),
                ((4, ("a",), ()), (4, ("b",), ()), True), ((4, (), ()), (4, (), ()), True),
                ((4, ("a",), (("round", 1, ()),)), (4, ("a",), (("round", 2, ()),)), False),
                ((4, ("a",), (("if", "a", (TELL_A,), ()),)), (4, ("a",), (("if", "a", (), (TELL_A,)),)),
                 False)):
            self.assertIs(same_but_names(one, two), told)
            self.assertIs(same_but_names(two, one), told)

    def test_by_chance(self):
        chance = random.Random(46)
        for program in ByChance.PROGRAMS:
            names = names_in_order(program)
            others = chance.sample([f"n{letter}" for letter in "abcdefghijk"] + names, len(names))
            new = dict(zip(names, others))
            other = (program[0], tuple(new[name] for name in program[1]), named(program[2], new))
            self.assertIs(same_but_names(program, other), True)
            self.assertIs(same_but_names(other, program), True)
            if len(names) > 1:
                new[names[0]] = new[names[1]]
                other = (program[0], tuple(new[name] for name in program[1]), named(program[2], new))
                if first_wrong(other) is None:
                    self.assertIs(same_but_names(program, other), False)

    def test_refusals_of_the_one_then_of_the_other(self):
        good, bad = (4, ("a",), (TELL_A,)), (4, ("a",), (("tell", 1),))
        first, second = (4, ("a",), (TELL_A, TELL_B)), (4, ("a",), (TELL_B,))
        for one, other in ((bad, good), (good, bad), (bad, bad), (bad, first), (good, None), (3, good)):
            with self.assertRaises(BadProgram):
                same_but_names(one, other)
        for one, other, place in ((first, good, 1), (good, first, 1), (first, second, 1),
                                  (second, first, 0), (first, bad, 1), (second, None, 0)):
            with self.assertRaises(Unsound) as held:
                same_but_names(one, other)
            self.assertEqual((held.exception.place, held.exception.what), (place, "name"))


class Refused(unittest.TestCase):
    def test_as_need_program(self):
        for rule, place in ((rule, place) for rule in RULES + ["no rule"] for place in (0, "no place")):
            with self.assertRaises(BadProgram):
                rewritten((4, ("a",), (("tell", 1),)), rule, place)
            with self.assertRaises(Unsound) as held:
                rewritten((4, ("a",), (TELL_A, TELL_B)), rule, place)
            self.assertEqual((held.exception.place, held.exception.what), (1, "name"))

    def test_no_rule(self):
        for thing in ODD + ["Names", "name", "names ", " names", "a", "set", 0, ("names",), ["names"],
                            b"names", "twins", "back", "plain"]:
            for place in (0, -1, "no place", 19):
                with self.assertRaises(BadAsked):
                    rewritten(SAMPLE, thing, place)

    def test_no_place(self):
        for rule in RULES:
            for place in NOT_PLACES + [19, -1]:
                with self.assertRaises(BadPlace):
                    rewritten(SAMPLE, rule, place)
            with self.assertRaises(BadPlace):
                rewritten((4, ("a",), ()), rule, 0)


class Kinds(unittest.TestCase):
    def test_of_what_is_told(self):
        for program in [SoundMaker(seed, 3, 2).program() for seed in range(10)]:
            for rule in RULES:
                told = rewritten(program, rule, 0)
                if told is not None:
                    self.assertEqual([type(part) for part in told], [int, tuple, tuple])


if __name__ == "__main__":
    unittest.main()
