import unittest

from bitneed.bits import expr_facts
from bitneed.errors import BadPlace, BadProgram, Unsound
from bitneed.forms import first_wrong, places_of
from bitneed.fronts import facts_ahead
from bitneed.needs import needs
from bitneed.plain import is_plain, made_plain, plain_at
from bitneed.reading import program_in
from tests.kit import (NOT_PLACES, SAMPLE, SET_A, TELL_A, SoundMaker, Walk, all_words, copy, number,
                       size_of, sound_programs)

PLAIN_SAMPLE = """wide 8
in a b
set x number 1
set y number 1
if a
set z add a b
else
set z number 0
set z number 1
end
round 3
set w unlike z y
set w same w w
round 1
set u number 0
set u number 0
end
set u number 0
end
set x pick w u x
tell x"""


class Rules:
    """An oracle: what comes in the place of each row, by what is told of the program elsewhere."""

    def __init__(self, program):
        self.wide = program[0]
        self.facts = [None if part is None else {name: tuple(facts) for name, *facts in part}
                      for part in facts_ahead(program)]
        self.behind = [dict(behind) for _, behind in needs(program)]
        self.at = {}
        self.made = (program[0], program[1], self.rows(program[2], 0))

    def rows(self, rows, place):
        made = ()
        for row in rows:
            self.at[place] = self.row(row, place)
            made += self.at[place]
            place += size_of(row)
        return made

    def row(self, row, place):
        if row[0] in ("if", "round"):
            first = self.rows(row[2], place + 1)
            second = self.rows(row[3] if row[0] == "if" else (), place + 1 + sum(map(size_of, row[2])))
        if self.facts[place] is None:
            return ()
        if row[0] == "round":
            return (row[:2] + (first,),) if row[1] and first else ()
        if row[0] == "if":
            zeros, ones = self.facts[place][row[1]]
            if ones:
                return first
            if zeros == 2 ** self.wide - 1:
                return second
            return (("if", row[1], first, second),) if first + second else ()
        return (row,) if row[0] == "tell" else self.set(row, place)

    def set(self, row, place):
        wanted = [bit for bit in range(self.wide) if self.behind[place].get(row[1], 0) >> bit & 1]
        if not wanted:
            return ()
        zeros, ones = expr_facts(self.wide, row[2], self.facts[place])
        if all((zeros | ones) >> bit & 1 for bit in wanted):
            return (number(row[1], ones),)
        if row[2][0] == "pick":
            of_zeros, of_ones = self.facts[place][row[2][1]]
            if of_ones:
                return (copy(row[1], row[2][2]),)
            if of_zeros == 2 ** self.wide - 1:
                return (copy(row[1], row[2][3]),)
        return (row,)


class PlainTest(unittest.TestCase):
    def comes(self, rows, *wanted, wide=4, inputs=("a", "b")):
        """The rows that come of these; what they are plain at each place makes up all of it."""
        program = (wide, inputs, tuple(rows))
        self.assertIsNone(first_wrong(program))
        told = made_plain(program)
        self.assertEqual(told, (wide, inputs, wanted))
        self.assertIs(is_plain(program), told == program)
        self.assertIsNone(first_wrong(told))


class SetRows(PlainTest):
    def test_of_which_no_bit_is_needed(self):
        self.comes((SET_A, number("a", 2), TELL_A), number("a", 2), TELL_A)
        self.comes((TELL_A, SET_A), TELL_A)
        self.comes((copy("c", "a"), copy("d", "c"), TELL_A), TELL_A)
        self.comes((copy("c", "a"), ("set", "c", ("up", "c", 2)), ("set", "c", ("up", "c", 2)),
                    ("tell", "c")), number("c", 0), number("c", 0), ("tell", "c"))

    def test_whose_needed_bits_are_known(self):
        # By the needs of the program as it is: of c all bits are needed for the copy.
        self.comes((number("c", 5), copy("d", "c"), ("tell", "d")), number("c", 5), number("d", 5),
                   ("tell", "d"))
        rows = (number("m", 5), ("set", "c", ("or", "a", "m")), ("if", "c", (TELL_A,), ()))
        self.comes(rows, number("m", 5), number("c", 5), TELL_A)
        self.comes((copy("c", "a"), ("set", "c", ("up", "c", 4)), ("tell", "c")), number("c", 0),
                   ("tell", "c"))
        self.comes((("set", "c", ("down", "a", 4)), ("tell", "c")), number("c", 0), ("tell", "c"))

    def test_all_ones_of_what_it_sets_also_those_that_are_not_needed(self):
        rows = (number("m", 5), ("set", "c", ("or", "a", "m")), number("one", 1),
                ("set", "d", ("and", "b", "c")), ("set", "d", ("and", "d", "one")), ("tell", "d"))
        # Of c but the lowest bit is needed, which is known; its other ONE stands in the number, too.
        self.comes(rows, number("m", 5), number("c", 5), number("one", 1), *rows[3:])
        rows = (number("m", 5), ("set", "c", ("or", "a", "m")), number("one", 1),
                ("set", "d", ("and", "c", "one")), ("tell", "d"))
        self.comes(rows, number("m", 5), number("c", 5), number("one", 1), number("d", 1), ("tell", "d"))

    def test_bits_that_are_known_and_needed_only_in_part(self):
        rows = (number("m", 3), ("set", "c", ("and", "a", "m")), ("tell", "c"))
        self.comes(rows, *rows)

    def test_a_number_stays(self):
        rows = (number("c", 15), ("tell", "c"))
        self.comes(rows, *rows)

    def test_a_pick_of_a_decided_c(self):
        pick = ("set", "d", ("pick", "c", "a", "b"))
        for n in (1, 2, 8, 15):
            self.comes((number("c", n), pick, ("tell", "d")), number("c", n), copy("d", "a"), ("tell", "d"))
        self.comes((number("c", 0), pick, ("tell", "d")), number("c", 0), copy("d", "b"), ("tell", "d"))
        # Of c a bit is known, and not all of them.
        rows = (number("c", 4), ("set", "c", ("or", "c", "a")), pick, ("tell", "c"), ("tell", "d"))
        self.comes(rows, *rows[:2], copy("d", "a"), *rows[3:])

    def test_a_pick_of_a_c_that_is_not_decided(self):
        rows = (("set", "d", ("pick", "a", "a", "b")), ("tell", "d"))
        self.comes(rows, *rows)
        rows = (("set", "c", ("same", "a", "b")), ("set", "d", ("pick", "c", "a", "b")), ("tell", "d"))
        self.comes(rows, *rows)

    def test_a_number_ahead_of_being_a_copy(self):
        rows = (number("c", 1), number("y", 6), ("set", "d", ("pick", "c", "y", "a")), ("tell", "d"))
        self.comes(rows, number("c", 1), number("y", 6), number("d", 6), ("tell", "d"))
        rows = (number("y", 6), ("set", "d", ("pick", "a", "y", "y")), ("tell", "d"))
        self.comes(rows, number("y", 6), number("d", 6), ("tell", "d"))
        # One going alone, so what only the copy or the number leaves not needed stands there yet.
        self.assertIs(is_plain((4, ("a", "b"), rows)), False)


class Ifs(PlainTest):
    def test_of_one_way_alone(self):
        for n, way in ((1, (copy("d", "a"),)), (8, (copy("d", "a"),)), (0, (copy("d", "b"), TELL_A))):
            rows = (number("c", n), ("if", "c", (copy("d", "a"),), (copy("d", "b"), TELL_A)), ("tell", "d"))
            self.comes(rows, number("c", n), *way, ("tell", "d"))

    def test_its_rows_are_made_plain_and_may_be_none(self):
        rows = (number("c", 1), ("if", "c", (copy("b", "a"), number("b", 1), SET_A), (TELL_A,)),
                ("tell", "b"))
        self.comes(rows, number("c", 1), number("b", 1), ("tell", "b"))
        self.comes((number("c", 1), ("if", "c", (), (TELL_A,)), ("tell", "b")), number("c", 1),
                   ("tell", "b"))
        self.comes((number("c", 1), ("if", "c", (SET_A,), (TELL_A,)), ("tell", "b")), number("c", 1),
                   ("tell", "b"))

    def test_one_within_another(self):
        inner = ("if", "c", (("if", "d", (TELL_A,), ()),), ())
        rows = (number("c", 1), number("d", 0), ("if", "a", (inner,), (("tell", "b"),)))
        self.comes(rows, number("c", 1), number("d", 0), ("if", "a", (), (("tell", "b"),)))
        self.comes(rows[:2] + (("if", "c", (("if", "d", (), (inner, TELL_A)),), ()),),
                   number("c", 1), number("d", 0), TELL_A)

    def test_in_whose_ways_nothing_is_left(self):
        self.comes((("if", "a", (), ()), TELL_A), TELL_A)
        self.comes((("if", "a", (SET_A,), (copy("c", "b"),)), ("tell", "b")), ("tell", "b"))
        self.comes((("if", "a", (("if", "b", (), ()),), (("round", 2, ()),)),))
        # Nothing is left in its ways, though a tell that isn't come to stands there.
        rows = (("if", "a", (("round", 0, (TELL_A,)),), ()), ("tell", "b"))
        self.comes(rows, ("tell", "b"))

    def test_a_way_in_which_something_is_left(self):
        self.comes((("if", "a", (TELL_A, SET_A), (SET_A,)), ("tell", "b")),
                   ("if", "a", (TELL_A,), ()), ("tell", "b"))
        self.comes((("if", "a", (SET_A,), (TELL_A,)), ("tell", "b")), ("if", "a", (), (TELL_A,)),
                   ("tell", "b"))


class Rounds(PlainTest):
    def test_without_rows_or_of_none(self):
        self.comes((("round", 3, ()), ("round", 0, (TELL_A,)), ("round", 0, ()), TELL_A), TELL_A)

    def test_in_which_nothing_is_left(self):
        self.comes((("round", 3, (SET_A, ("if", "a", (), ()))), ("tell", "b")), ("tell", "b"))
        self.comes((("round", 3, (("round", 2, (("round", 0, (TELL_A,)),)),)), ("tell", "b")),
                   ("tell", "b"))

    def test_in_which_something_is_left(self):
        self.comes((("round", 1, (SET_A, TELL_A, copy("c", "a"))),), ("round", 1, (SET_A, TELL_A)))
        self.comes((("round", 12, (TELL_A, SET_A, number("a", 2))),), ("round", 12, (
            TELL_A, number("a", 2))))


class Places(unittest.TestCase):
    def test_what_comes_at_each_place(self):
        rows = (number("c", 1), ("if", "c", (copy("b", "c"), TELL_A), (TELL_A,)), ("round", 2, (
            ("if", "d", (SET_A, ("tell", "b")), (TELL_A,)), SET_A)), ("round", 0, (TELL_A,)))
        program = (4, ("a", "b", "d"), rows)
        self.assertEqual([plain_at(program, place) for place in range(len(places_of(program)))], [
            (number("c", 1),), (number("b", 1), TELL_A), (number("b", 1),), (TELL_A,), (),
            (("round", 2, (("if", "d", (("tell", "b"),), (TELL_A,)), SET_A)),),
            (("if", "d", (("tell", "b"),), (TELL_A,)),), (), (("tell", "b"),), (TELL_A,), (SET_A,),
            (), ()])

    def test_of_no_place(self):
        for place in NOT_PLACES + [19, -1]:
            with self.assertRaises(BadPlace):
                plain_at(SAMPLE, place)
        with self.assertRaises(BadPlace):
            plain_at((4, ("a",), ()), 0)

    def test_kinds(self):
        for place in range(19):
            self.assertIs(type(plain_at(SAMPLE, place)), tuple)
        self.assertIs(type(made_plain(SAMPLE)), tuple)
        self.assertIs(is_plain(SAMPLE), False)
        self.assertIs(is_plain((4, (), ())), True)


class Whole(unittest.TestCase):
    PROGRAMS = sound_programs(900, 5) + [SoundMaker(seed, 8, 1).program() for seed in range(20)] + [
        SAMPLE, (4, ("a",), ()), (4, (), ())]

    def test_the_sample(self):
        self.assertEqual(made_plain(SAMPLE), program_in(PLAIN_SAMPLE))

    def test_against_what_is_told_of_each_place(self):
        for program in self.PROGRAMS:
            wanted = Rules(program)
            self.assertEqual(made_plain(program), wanted.made)
            self.assertIs(is_plain(program), wanted.made == program)
            for place in range(len(places_of(program))):
                self.assertEqual(plain_at(program, place), wanted.at[place])

    def test_it_need_not_be_plain_itself(self):
        rows = (number("c", 1), copy("d", "c"), copy("e", "d"), ("tell", "e"))
        told = (4, (), rows)
        for left in (rows[:1] + (number("d", 1), number("e", 1)), (number("e", 1),)):
            self.assertIs(is_plain(told), False)
            told = made_plain(told)
            self.assertEqual(told, (4, (), left + rows[3:]))
        self.assertIs(is_plain(told), True)

    def test_the_same_is_told_and_nothing_is_wrong(self):
        for program in self.PROGRAMS:
            once = made_plain(program)
            twice = made_plain(once)
            for other in (once, twice):
                self.assertIsNone(first_wrong(other))
                self.assertEqual(other[:2], program[:2])
                for words in all_words(program)[:16] if program != SAMPLE else [(0, 0), (3, 255)]:
                    self.assertEqual(Walk(other, words).tellings, Walk(program, words).tellings)


class Refused(unittest.TestCase):
    def test_as_need_program(self):
        for asked in (made_plain, is_plain, lambda program: plain_at(program, "no place")):
            with self.assertRaises(BadProgram):
                asked((4, ("a",), (("tell", 1),)))
            with self.assertRaises(Unsound) as held:
                asked((4, ("a",), (TELL_A, ("tell", "z"))))
            self.assertEqual((held.exception.place, held.exception.what), (1, "name"))


if __name__ == "__main__":
    unittest.main()
