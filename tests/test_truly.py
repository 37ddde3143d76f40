import random
import unittest

from bitneed.errors import BadPlace, BadProgram, BadWidths, TooMany, Unsound
from bitneed.forms import places_of, set_places
from bitneed.truly import alone, holds_truly, together
from bitneed.widths import widths
from tests.kit import (NOT_PLACES, ODD, SAMPLE, SET_A, TELL_A, SoundMaker, Walk, all_words, copy,
                       number, sound_programs)


class Tried:
    """An oracle: each of what can be put in is run anew, with each of the widths."""

    def __init__(self, program):
        self.program = program
        self.places = set_places(program)
        self.all_words = all_words(program)
        self.wanted = [Walk(program, words).tellings for words in self.all_words]

    def holds(self, widths_told):
        by_place = dict(zip(self.places, widths_told))

        def narrow(place, word):
            return word % 2 ** by_place[place]

        return all(Walk(self.program, words, narrow).tellings == wanted
                   for words, wanted in zip(self.all_words, self.wanted))

    def least(self, ahead, at):
        """The least width of that set row beside those ahead, all others being WIDE."""
        wide = self.program[0]
        for width in range(wide + 1):
            others = list(ahead) + [wide] * (len(self.places) - len(ahead))
            others[at] = width
            if self.holds(others):
                return width
        raise AssertionError("WIDE always holds")

    def alone(self, at):
        return self.least([], at)

    def together(self):
        told = []
        for at in range(len(self.places)):
            told.append(self.least(told, at))
        return tuple(told)


class HoldsTruly(unittest.TestCase):
    def test_wide_ones_hold(self):
        for program in sound_programs(40):
            self.assertIs(holds_truly(program, (program[0],) * len(set_places(program))), True)

    def test_true_or_false(self):
        program = (4, ("a",), (copy("x", "a"), number("y", 5), ("tell", "x"), ("tell", "y")))
        for one in range(5):
            for other in range(5):
                self.assertIs(holds_truly(program, (one, other)), one == 4 and other >= 3)

    def test_a_wider_one_need_not_hold(self):
        # That 5 isn't 1 is so of 0, too, but not of the lowest bits of 5.
        rows = (number("x", 5), number("one", 1), ("set", "t", ("same", "x", "one")), ("tell", "t"))
        program = (3, (), rows)
        self.assertEqual([holds_truly(program, (width, 3, 3)) for width in range(4)],
                         [True, False, False, True])
        self.assertEqual(alone(program, 0), 0)

    def test_as_many_tellings_and_not_only_alike_ones(self):
        rows = (copy("x", "a"), ("if", "x", (number("t", 0), ("tell", "t")), ()))
        self.assertIs(holds_truly((1, ("a",), rows), (0, 1)), False)
        rows = (copy("x", "a"), number("t", 0), ("if", "x", (("tell", "t"),), (("tell", "t"),)))
        self.assertIs(holds_truly((1, ("a",), rows), (0, 0)), True)

    def test_told_at_other_places(self):
        rows = (copy("x", "a"), ("if", "x", (("tell", "b"), ("round", 2, (("tell", "b"),))), (
            ("round", 2, (("tell", "b"),)), ("tell", "b"))))
        self.assertIs(holds_truly((2, ("a", "b"), rows), (0,)), True)
        rows = (copy("x", "a"), ("if", "x", (("tell", "b"), ("round", 2, (("tell", "b"),))), (
            ("round", 2, (("tell", "b"),)), TELL_A)))
        self.assertIs(holds_truly((2, ("a", "b"), rows), (0,)), False)

    def test_only_what_is_told_counts(self):
        self.assertIs(holds_truly((4, ("a",), (SET_A, copy("b", "a"))), (0, 0)), True)
        self.assertIs(holds_truly((4, ("a",), ()), ()), True)
        self.assertIs(holds_truly((12, (), ()), ()), True)


class Alone(unittest.TestCase):
    def test_each_row_by_itself(self):
        # Of two that are both told by way of one alone, either may be nothing.
        rows = (copy("x", "a"), copy("y", "a"), ("set", "t", ("or", "x", "y")), ("tell", "t"))
        program = (2, ("a",), rows)
        self.assertEqual([alone(program, place) for place in range(3)], [0, 0, 2])
        self.assertIs(holds_truly(program, (0, 2, 2)), True)
        self.assertIs(holds_truly(program, (2, 0, 2)), True)
        self.assertIs(holds_truly(program, (0, 0, 2)), False)
        self.assertEqual(together(program), (0, 2, 2))

    def test_a_row_that_is_not_come_to(self):
        program = (4, ("a",), (("round", 0, (SET_A, TELL_A)), number("b", 0), TELL_A))
        self.assertEqual((alone(program, 1), alone(program, 3)), (0, 0))

    def test_a_row_of_a_round(self):
        rows = (number("x", 0), number("one", 1),
                ("round", 5, (("set", "x", ("add", "x", "one")),)), ("tell", "x"))
        program = (4, (), rows)
        # 0, then up to 5: with two bits 5 is 1, so three are wanted.
        self.assertEqual([alone(program, place) for place in (0, 1, 3)], [0, 1, 3])

    def test_kinds_of_what_is_told(self):
        self.assertIs(type(alone((4, ("a",), (copy("b", "a"),)), 0)), int)


class Together(unittest.TestCase):
    def test_row_by_row(self):
        # Ahead of the first one the second one is WIDE; behind it the first is as it was told.
        rows = (copy("x", "a"), copy("y", "a"), ("set", "t", ("or", "x", "y")), ("tell", "t"))
        self.assertEqual(together((2, ("a",), rows)), (0, 2, 2))

    def test_wider_than_those_by_needs_at_a_row_behind_a_narrower_one(self):
        found = [program for program in sound_programs(300, 4)
                 if any(true > by_needs for true, by_needs in zip(together(program), widths(program)))]
        for program in found:
            told = together(program)
            first = [true > by_needs for true, by_needs in zip(told, widths(program))].index(True)
            self.assertTrue(any(true < by_needs for true, by_needs
                                in zip(told[:first], widths(program)[:first])))
        self.assertGreater(len(found), 0)

    def test_without_set_rows_and_without_rows(self):
        self.assertEqual(together((4, ("a", "b"), (TELL_A,))), ())
        self.assertEqual(together((12, (), ())), ())

    def test_kinds_of_what_is_told(self):
        told = together((4, ("a", "b"), SAMPLE[2]))
        self.assertIs(type(told), tuple)
        self.assertEqual([type(width) for width in told], [int] * 12)


class ByTrying(unittest.TestCase):
    PROGRAMS = sound_programs(600, 5) + [SoundMaker(seed, 4, 2).program() for seed in range(6)] + [
        SoundMaker(seed, 8, 1).program() for seed in range(3)] + [
        SoundMaker(seed, 12, 0).program() for seed in range(12)]

    def test_against_going_through_all(self):
        chance = random.Random(20)
        for program in self.PROGRAMS:
            tried = Tried(program)
            self.assertEqual(together(program), tried.together())
            for at, place in enumerate(tried.places):
                self.assertEqual(alone(program, place), tried.alone(at))
            for _ in range(4):
                some = tuple(chance.choice([0, program[0], chance.randint(0, program[0])])
                             for _ in tried.places)
                self.assertIs(holds_truly(program, some), tried.holds(some))

    def test_what_they_hold(self):
        for program in self.PROGRAMS:
            self.assertIs(holds_truly(program, together(program)), True)
            self.assertIs(holds_truly(program, widths(program)), True)


class Refused(unittest.TestCase):
    PROGRAM = (4, ("a", "b"), (copy("x", "a"), ("if", "b", (number("y", 1),), ()), ("tell", "x")))
    TOO_MANY = [(3, ("a", "b", "c"), (copy("x", "a"), TELL_A)), (5, ("a", "b"), (copy("x", "a"),)),
                (9, ("a",), (TELL_A, copy("x", "a"))), (12, ("a", "b", "c", "d"), (SET_A,))]

    def test_as_need_program(self):
        for asked in (together, lambda program: holds_truly(program, "no widths"),
                      lambda program: alone(program, "no place")):
            for wide in (4, 12):
                with self.assertRaises(BadProgram):
                    asked((wide, ("a", "b"), (("tell", 1),)))
                with self.assertRaises(Unsound) as held:
                    asked((wide, ("a", "b"), (TELL_A, ("tell", "z"))))
                self.assertEqual((held.exception.place, held.exception.what), (1, "name"))

    def test_no_widths(self):
        for program in [self.PROGRAM, (12, ("a", "b"), self.PROGRAM[2])]:
            wide = program[0]
            for thing in ODD + [(), (1,), (1, 1, 1), [1, 1], (wide + 1, 0), (0, wide + 1), (-1, 0),
                                (True, 1), (0, False), (0, None), ("1", 1), ((1,), 1), 2, "11"]:
                with self.assertRaises(BadWidths):
                    holds_truly(program, thing)
        for thing in ODD + [(0,), []]:
            with self.assertRaises(BadWidths):
                holds_truly((4, ("a",), (TELL_A,)), thing)

    def test_no_place_of_a_set_row(self):
        for program in [self.PROGRAM, (12, ("a", "b"), self.PROGRAM[2])]:
            for thing in NOT_PLACES + [1, 3, 4, -1, (0,), "0"]:
                with self.assertRaises(BadPlace):
                    alone(program, thing)
        with self.assertRaises(BadPlace):
            alone((4, ("a",), ()), 0)
        self.assertEqual((alone(self.PROGRAM, 0), alone(self.PROGRAM, 2)), (4, 0))

    def test_too_many_last(self):
        for program in self.TOO_MANY:
            place = set_places(program)[0]
            for asked, *more in ((together,), (alone, place), (holds_truly, (0,))):
                with self.assertRaises(TooMany):
                    asked(program, *more)
            for thing in ((), (13,), (True,), [0]):
                with self.assertRaises(BadWidths):
                    holds_truly(program, thing)
            for thing in (True, len(places_of(program)), -1, "0"):
                with self.assertRaises(BadPlace):
                    alone(program, thing)

    def test_just_as_many_as_can_be(self):
        for wide, inputs in ((12, ""), (8, "a"), (4, "ab"), (2, "abc"), (2, "abcd"), (1, "abcd")):
            program = (wide, tuple(inputs), (number("x", 1), ("tell", "x")))
            self.assertEqual(together(program), (1,))
            self.assertEqual(alone(program, 0), 1)
            self.assertIs(holds_truly(program, (0,)), False)


if __name__ == "__main__":
    unittest.main()
