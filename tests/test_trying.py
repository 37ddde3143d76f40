import random
import unittest

from bitneed.errors import BadAsked, BadInput, BadPlace, BadProgram, BadWidths, TooMany, Unsound
from bitneed.forms import places_of, set_places
from bitneed.needs import needs
from bitneed.plain import made_plain
from bitneed.trying import apart_by_widths, counting, put_in, told_apart, turned
from bitneed.widths import widths
from tests.kit import (NOT_PLACES, ODD, SAMPLE, SET_A, TELL_A, SoundMaker, Walk, all_words, copy,
                       number, sound_programs, with_part)

# So many bits can be put in that they are just gone through, and one more each.
FEW = [(12, ""), (8, "a"), (4, "ab"), (2, "abc"), (2, "abcd"), (1, "abcd"), (1, "a")]
MANY = [(9, "a"), (12, "a"), (5, "ab"), (3, "abc"), (3, "abcd"), (12, "abcd")]


def turn_at(place, bits):
    return lambda here, word: word ^ bits if here == place else word


def narrow_by(program, told):
    by_place = dict(zip(set_places(program), told))
    return lambda place, word: word % 2 ** by_place[place]


def least_apart(program, asked, others):
    """An oracle: the first of all that can be put in with which both tell otherwise."""
    for words in all_words(program):
        if asked(words) != others(words):
            return words
    return None


class PutIn(unittest.TestCase):
    def test_all_words_rising(self):
        self.assertEqual(put_in((1, ("b", "a"), ())), [(0, 0), (0, 1), (1, 0), (1, 1)])
        self.assertEqual(put_in((2, ("a",), (TELL_A,))), [(0,), (1,), (2,), (3,)])
        for wide, inputs in FEW:
            told = put_in((wide, tuple(inputs), ()))
            self.assertEqual(told, all_words((wide, inputs, ())))
            self.assertEqual(told, sorted(told))

    def test_of_no_input(self):
        self.assertEqual(put_in((1, (), ())), [()])
        self.assertEqual(put_in((12, (), (number("a", 1),))), [()])

    def test_kinds(self):
        told = put_in((4, ("a", "b"), (TELL_A,)))
        self.assertIs(type(told), list)
        for words in told:
            self.assertEqual([type(words)] + [type(word) for word in words], [tuple, int, int])

    def test_the_list_is_the_askers_own(self):
        program = (2, ("a",), (TELL_A,))
        mine = put_in(program)
        mine.reverse()
        mine.append(None)
        self.assertEqual(put_in(program), [(0,), (1,), (2,), (3,)])


class ToldApart(unittest.TestCase):
    def test_the_least_with_which_otherwise_is_told(self):
        one = (4, ("a", "b"), (("set", "x", ("below", "a", "b")), ("tell", "x")))
        other = (4, ("c", "d"), (("set", "x", ("below", "c", "d")), ("set", "y", ("up", "x", 1)),
                                 ("tell", "y")))
        self.assertEqual(told_apart(one, other), (0, 1))
        self.assertEqual(told_apart(other, one), (0, 1))
        other = (4, ("a", "b"), (("set", "x", ("same", "a", "b")), ("tell", "x")))
        self.assertEqual(told_apart(one, other), (0, 0))
        other = (4, ("a", "b"), (number("n", 11), ("set", "x", ("below", "a", "b")), (
            "set", "y", ("same", "a", "n")), ("set", "x", ("unlike", "x", "y")), ("tell", "x")))
        self.assertEqual(told_apart(one, other), (11, 0))

    def test_inputs_go_by_their_order_and_not_by_their_names(self):
        one = (4, ("a", "b"), (TELL_A,))
        self.assertIsNone(told_apart(one, (4, ("b", "a"), (("tell", "b"),))))
        self.assertEqual(told_apart(one, (4, ("b", "a"), (TELL_A,))), (0, 1))

    def test_none(self):
        for program in sound_programs(40):
            self.assertIsNone(told_apart(program, program))
        self.assertIsNone(told_apart((4, ("a",), ()), (4, ("b",), (number("a", 1),))))
        self.assertIsNone(told_apart((4, (), ()), (4, (), ())))

    def test_of_no_input(self):
        one, other = (4, (), (number("a", 1), TELL_A)), (4, (), (number("a", 2), TELL_A))
        self.assertEqual(told_apart(one, other), ())
        self.assertEqual(told_apart(one, (4, (), ())), ())
        self.assertIsNone(told_apart(one, one))

    def test_as_many_tellings_and_where_they_stand(self):
        one = (1, ("a",), (number("z", 0), ("if", "a", (("tell", "z"), ("tell", "z")), (TELL_A,))))
        other = (1, ("a",), (number("z", 0), ("tell", "z"), ("if", "a", (("tell", "z"),), ())))
        self.assertIsNone(told_apart(one, other))
        self.assertEqual(told_apart(one, (1, ("a",), (number("z", 0), ("tell", "z")))), (1,))
        self.assertEqual(told_apart((1, ("a",), (number("z", 0), ("tell", "z"))), one), (1,))
        self.assertEqual(told_apart(one, (1, ("a",), ())), (0,))

    def test_by_going_through_all(self):
        chance = random.Random(50)
        found = {True: 0, False: 0}
        for program in sound_programs(300, 6):
            rows = places_of(program)
            others = [made_plain(program)]
            for place in set_places(program)[:4]:
                word = number(rows[place][1], chance.randrange(2 ** program[0]))
                others.append((program[0], program[1], tuple(
                    word if row is rows[place] else row for row in program[2])))
            for other in others:
                wanted = least_apart(program, lambda words: Walk(program, words).tellings,
                                     lambda words: Walk(other, words).tellings)
                self.assertEqual(told_apart(program, other), wanted)
                self.assertEqual(told_apart(other, program), wanted)
                found[wanted is None] += 1
        self.assertGreater(min(found.values()), 100)


class ApartByWidths(unittest.TestCase):
    def test_the_least_with_which_otherwise_is_told(self):
        program = (4, ("a", "b"), (copy("x", "a"), copy("y", "b"), ("tell", "x"), ("tell", "y")))
        for one in range(5):
            for other in range(5):
                wanted = (0, 2 ** other) if other < 4 else (2 ** one, 0) if one < 4 else None
                self.assertEqual(apart_by_widths(program, (one, other)), wanted)

    def test_of_no_input(self):
        program = (4, (), (number("x", 4), ("tell", "x")))
        self.assertEqual([apart_by_widths(program, (width,)) for width in range(5)],
                         [(), (), (), None, None])
        self.assertIsNone(apart_by_widths((4, (), ()), ()))

    def test_by_going_through_all(self):
        chance = random.Random(51)
        found = {True: 0, False: 0}
        for program in sound_programs(400, 6):
            wide = program[0]
            own = widths(program)
            self.assertIsNone(apart_by_widths(program, own))
            for _ in range(3):
                some = tuple(chance.choice([width, width, wide, max(width - 1, 0), chance.randint(0, wide)])
                             for width in own)
                wanted = least_apart(program, lambda words: Walk(program, words).tellings,
                                     lambda words: Walk(program, words, narrow_by(program, some)).tellings)
                self.assertEqual(apart_by_widths(program, some), wanted)
                found[wanted is None] += 1
        self.assertGreater(min(found.values()), 100)


class Turned(unittest.TestCase):
    def test_the_bits_the_other_way_about(self):
        program = (4, ("a",), (copy("x", "a"), ("tell", "x"), TELL_A))
        for bits in range(16):
            for word in range(16):
                self.assertEqual(turned(program, 0, bits, (word,)), (word ^ bits, word))

    def test_each_time_that_the_row_is_gone_through(self):
        rows = (number("x", 0), ("round", 3, (("set", "x", ("add", "x", "one")), ("tell", "x"))))
        program = (4, ("one",), rows)
        self.assertEqual(turned(program, 2, 0, (1,)), (1, 2, 3))
        self.assertEqual(turned(program, 2, 8, (1,)), (9, 2, 11))
        self.assertEqual(turned(program, 2, 1, (1,)), (0, 0, 0))
        self.assertEqual(turned(program, 0, 4, (1,)), (5, 6, 7))

    def test_a_row_that_is_not_gone_through(self):
        program = (4, ("a",), (("if", "a", (SET_A,), ()), ("round", 0, (SET_A,)), TELL_A))
        self.assertEqual(turned(program, 1, 15, (0,)), (0,))
        self.assertEqual(turned(program, 1, 15, (3,)), (14,))
        self.assertEqual(turned(program, 3, 15, (3,)), (1,))

    def test_another_way_is_gone_then(self):
        program = (2, ("a",), (copy("x", "a"), ("if", "x", (TELL_A, TELL_A), (("tell", "x"),))))
        self.assertEqual(turned(program, 0, 1, (1,)), (0,))
        self.assertEqual(turned(program, 0, 1, (0,)), (0, 0))

    def test_kinds(self):
        self.assertIs(type(turned(SAMPLE, 0, 255, (1, 2))), tuple)
        self.assertEqual(turned((4, ("a",), (SET_A,)), 0, 15, (3,)), ())

    def test_also_where_more_can_be_put_in_than_is_gone_through(self):
        rows = (copy("x", "d"), ("tell", "x"))
        self.assertEqual(turned((12, tuple("abcd"), rows), 0, 4095, (0, 1, 2, 3)), (4092,))

    def test_by_chance(self):
        chance = random.Random(52)
        for program in sound_programs(300):
            for place in set_places(program):
                bits = chance.randrange(2 ** program[0])
                for words in chance.sample(all_words(program), min(4, len(all_words(program)))):
                    self.assertEqual(turned(program, place, bits, words),
                                     tuple(Walk(program, words, turn_at(place, bits)).tellings))


class Counting(unittest.TestCase):
    def counts(self, rows, *wanted, wide=4, inputs=("a", "b")):
        program = (wide, inputs, rows)
        self.assertEqual([counting(program, place) for place in set_places(program)], list(wanted))

    def test_bits_that_make_other_tellings(self):
        self.counts((copy("x", "a"), number("m", 5), ("set", "x", ("and", "x", "m")), ("tell", "x")),
                    5, 15, 15)
        self.counts((copy("x", "a"), ("set", "x", ("down", "x", 2)), ("tell", "x")), 12, 15)
        self.counts((SET_A, TELL_A, SET_A), 15, 0)
        self.counts((copy("x", "a"), ("if", "x", (("tell", "b"),), ())), 15)

    def test_for_something_that_can_be_put_in(self):
        # The bit counts where b is 1 alone.
        rows = (copy("x", "a"), number("one", 1), ("set", "c", ("same", "b", "one")),
                ("set", "y", ("pick", "c", "x", "b")), ("tell", "y"))
        self.assertEqual(counting((4, ("a", "b"), rows), 0), 15)

    def test_of_which_none_counts_alone_but_two_together_do(self):
        # What is told is whether x has both bits the other way about.
        rows = (number("x", 0), number("three", 3), ("set", "y", ("same", "x", "three")), ("tell", "y"))
        program = (2, (), rows)
        self.assertEqual(counting(program, 0), 0)
        self.assertEqual(turned(program, 0, 3, ()), (1,))
        self.assertEqual([turned(program, 0, bits, ()) for bits in range(3)], [(0,)] * 3)

    def test_each_time_that_the_row_is_gone_through(self):
        # Turned twice the bit stands again as it was; in between nothing is told.
        rows = (("round", 2, (copy("x", "x"),)), ("tell", "x"))
        self.counts(rows, 0, inputs=("x",))
        self.counts((("round", 3, (copy("x", "x"),)), ("tell", "x")), 15, inputs=("x",))

    def test_a_row_that_is_not_come_to(self):
        self.counts((("round", 0, (SET_A,)), TELL_A, ("if", "a", (), ())), 0)

    def test_words_of_one_and_of_twelve_bits(self):
        self.counts((copy("x", "d"), ("tell", "x")), 1, wide=1, inputs=tuple("abcd"))
        self.counts((number("x", 0), ("set", "y", ("up", "x", 4)), ("tell", "y")), 255, 4095, wide=12,
                    inputs=())
        self.assertIs(type(counting((4, ("a",), (SET_A,)), 0)), int)

    def test_by_going_through_all(self):
        programs = sound_programs(400, 5) + [SoundMaker(seed, 4, 2).program() for seed in range(4)]
        some = 0
        for program in programs:
            plain = [Walk(program, words).tellings for words in all_words(program)]
            for place in set_places(program):
                bits = [2 ** bit for bit in range(program[0])
                        if [Walk(program, words, turn_at(place, 2 ** bit)).tellings
                            for words in all_words(program)] != plain]
                self.assertEqual(counting(program, place), sum(bits))
                some += bool(bits)
                needed = dict(needs(program)[place][1]).get(places_of(program)[place][1], 0)
                self.assertEqual(sum(bits) & ~needed, 0)
                # Those that aren't needed make no other tellings, turned together.
                others = 2 ** program[0] - 1 - needed
                for words, tellings in list(zip(all_words(program), plain))[:8]:
                    self.assertEqual(turned(program, place, others, words), tuple(tellings))
        self.assertGreater(some, 200)


class Refused(unittest.TestCase):
    PROGRAM = (4, ("a", "b"), (copy("x", "a"), ("if", "b", (number("y", 1),), ()), ("tell", "x")))
    WIDER = (12,) + PROGRAM[1:]
    BAD = (4, ("a",), (("tell", 1),))
    UNSOUND = (4, ("a",), (TELL_A, ("tell", "z")))

    def refused(self, refusal, asked, *parts):
        with self.assertRaises(refusal):
            asked(*parts)

    def test_as_need_program(self):
        for asked, *parts in ((put_in,), (told_apart, None), (told_apart, self.UNSOUND),
                              (apart_by_widths, None), (counting, None), (turned, None, None, None)):
            self.refused(BadProgram, asked, self.BAD, *parts)
            self.refused(BadProgram, asked, (12, ("a", "b"), (("tell", 1),)), *parts)
            with self.assertRaises(Unsound) as held:
                asked(self.UNSOUND, *parts)
            self.assertEqual((held.exception.place, held.exception.what), (1, "name"))

    def test_the_other_program_behind_the_first_one(self):
        for program in (self.PROGRAM, self.WIDER, (5, ("a",), ())):
            self.refused(BadProgram, told_apart, program, self.BAD)
            self.refused(BadProgram, told_apart, program, None)
            self.refused(Unsound, told_apart, program, self.UNSOUND)
        other = (4, ("a",), (("tell", "z"),))
        with self.assertRaises(Unsound) as held:
            told_apart(self.UNSOUND, other)
        self.assertEqual(held.exception.place, 1)
        with self.assertRaises(Unsound) as held:
            told_apart(other, self.UNSOUND)
        self.assertEqual(held.exception.place, 0)

    def test_programs_to_which_not_the_same_can_be_put_in(self):
        for one, other in (((4, ("a",), ()), (5, ("a",), ())), ((4, ("a",), ()), (4, (), ())),
                           ((4, ("a", "b"), ()), (4, ("a",), ())), ((4, (), ()), (5, (), ())),
                           ((2, ("a", "b"), ()), (4, ("a",), ()))):
            self.refused(BadAsked, told_apart, one, other)
            self.refused(BadAsked, told_apart, other, one)
        # Ahead of being too many.
        for one, other in (((12, ("a", "b"), ()), (12, ("a",), ())), ((12, ("a",), ()), (4, ("a",), ()))):
            self.refused(BadAsked, told_apart, one, other)
            self.refused(BadAsked, told_apart, other, one)

    def test_no_place_of_a_set_row(self):
        for program in (self.PROGRAM, self.WIDER):
            for thing in NOT_PLACES + [1, 3, 4, -1, (0,), "0"]:
                self.refused(BadPlace, counting, program, thing)
                for bits, words in ((0, (0, 0)), (None, None), (-1, ())):
                    self.refused(BadPlace, turned, program, thing, bits, words)
        self.refused(BadPlace, counting, (4, (), ()), 0)

    def test_no_bits(self):
        for program in (self.PROGRAM, self.WIDER):
            for thing in ODD + [2 ** program[0], -1, (1,), "1"]:
                for words in ((0, 0), None, ()):
                    self.refused(BadAsked, turned, program, 0, thing, words)
        self.assertEqual(turned(self.PROGRAM, 0, 15, (0, 0)), (15,))

    def test_no_words(self):
        for program in (self.PROGRAM, self.WIDER):
            for thing in ODD + [(), (0,), (0, 0, 0), [0, 0], (0, True), (0, 2 ** program[0]), (-1, 0)]:
                self.refused(BadInput, turned, program, 0, 1, thing)

    def test_no_widths(self):
        for program in (self.PROGRAM, self.WIDER):
            for thing in ODD + [(), (1,), (1, 1, 1), [1, 1], (program[0] + 1, 0), (-1, 0), (True, 1)]:
                self.refused(BadWidths, apart_by_widths, program, thing)

    def test_too_many_last(self):
        for wide, inputs in MANY:
            program = (wide, tuple(inputs), (number("x", 1), ("tell", "x")))
            self.refused(TooMany, put_in, program)
            self.refused(TooMany, told_apart, program, program)
            self.refused(TooMany, told_apart, program, with_part(program, (2,), ()))
            self.refused(TooMany, apart_by_widths, program, (0,))
            self.refused(TooMany, counting, program, 0)
            self.assertEqual(turned(program, 0, 1, (0,) * len(inputs)), (0,))

    def test_just_as_many_as_can_be(self):
        for wide, inputs in FEW:
            program = (wide, tuple(inputs), (number("x", 1), ("tell", "x")))
            self.assertEqual(len(put_in(program)), 2 ** (wide * len(inputs)))
            self.assertIsNone(told_apart(program, program))
            self.assertEqual(apart_by_widths(program, (0,)), (0,) * len(inputs))
            self.assertEqual(counting(program, 0), 2 ** wide - 1)


if __name__ == "__main__":
    unittest.main()
