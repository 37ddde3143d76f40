import random
import unittest

from bitneed.bits import expr_facts
from bitneed.forms import places_of, set_places
from bitneed.fronts import facts_ahead
from bitneed.needs import needs
from bitneed.running import narrowed
from bitneed.widths import spared, widest, widths
from tests.kit import (SAMPLE, SET_A, TELL_A, Walk, all_words, copy, number, sound_programs)


def widths_by_hand(program):
    """Bit by bit, by what facts_ahead and needs tell."""
    told = []
    for row, facts, (_, behind) in zip(places_of(program), facts_ahead(program), needs(program)):
        if row[0] != "set":
            continue
        width = 0
        if facts is not None:
            by_name = {name: (zeros, ones) for name, zeros, ones in facts}
            zeros, _ = expr_facts(program[0], row[2], by_name)
            for bit in range(program[0]):
                if dict(behind).get(row[1], 0) >> bit & 1 and not zeros >> bit & 1:
                    width = bit + 1
        told.append(width)
    return tuple(told)


class WidthsTest(unittest.TestCase):
    def told(self, rows, *wanted, wide=4, inputs=("a", "b")):
        self.assertEqual(widths((wide, inputs, rows)), wanted)


class Widths(WidthsTest):
    def test_one_more_than_the_highest_bit_that_is_needed(self):
        for bits in range(16):
            rows = (copy("x", "a"), number("m", bits), ("set", "t", ("and", "x", "m")), ("tell", "t"))
            highest = len(format(bits, "b")) if bits else 0
            self.told(rows, highest, highest, highest)

    def test_not_of_the_zeros_of_what_it_sets(self):
        for n in range(16):
            self.told((number("x", n), ("tell", "x")), len(format(n, "b")) if n else 0)
        for k in range(12):
            self.told((("set", "x", ("down", "a", k)), ("tell", "x")), max(4 - k, 0))
            self.told((("set", "x", ("up", "a", k)), ("tell", "x")), 4 if k < 4 else 0)
        for kind in ("same", "below"):
            self.told((("set", "x", (kind, "a", "b")), ("tell", "x")), 1)
        self.told((("set", "x", ("below", "a", "a")), ("set", "y", ("same", "a", "a")),
                   ("tell", "x"), ("tell", "y")), 1, 1)

    def test_the_zeros_of_what_it_sets_and_not_those_ahead(self):
        self.told((number("x", 0), copy("x", "a"), ("tell", "x")), 0, 4)
        self.told((number("a", 1), ("set", "a", ("up", "a", 2)), TELL_A), 1, 3)

    def test_a_higher_bit_that_is_needed_and_a_zero(self):
        # Bits 0 and 3 are needed, and the bit 3 is a zero.
        rows = (number("m", 9), ("set", "x", ("down", "a", 1)), ("set", "t", ("and", "x", "m")),
                ("tell", "t"))
        self.told(rows, 4, 1, 1)

    def test_nothing_needed(self):
        self.told((SET_A, copy("b", "a"), number("a", 7)), 0, 0, 0)
        self.told((number("a", 15), number("a", 1), TELL_A), 0, 1)

    def test_rows_that_are_not_come_to(self):
        self.told((number("c", 1), ("if", "c", (number("a", 15),), (number("a", 15),)), TELL_A),
                  1, 4, 0)
        self.told((number("c", 0), ("if", "c", (number("a", 15),), (number("a", 7),)), TELL_A),
                  0, 0, 3)
        self.told((("round", 0, (number("a", 15), TELL_A, ("if", "a", (SET_A,), ()))), TELL_A), 0, 0)
        self.told((("round", 0, (("round", 3, (number("a", 15),)),)), TELL_A), 0)

    def test_within_an_idle_if(self):
        self.told((("if", "a", (number("c", 15), ("if", "c", (number("d", 3),), ())),
                    (("round", 2, (copy("c", "b"),)),)), ("tell", "b")), 0, 0, 0)

    def test_in_the_order_of_places(self):
        self.told((number("x", 1), ("if", "a", (number("x", 2), ("tell", "x")), (number("x", 4),)),
                   ("tell", "x"), ("round", 2, (number("x", 8), ("tell", "x")))), 0, 2, 3, 4)

    def test_of_one_and_of_twelve_bits(self):
        self.told((copy("x", "a"), ("tell", "x")), 1, wide=1)
        self.told((copy("x", "a"), ("tell", "x")), 12, wide=12)
        self.told((number("x", 4095), number("y", 2047), ("tell", "x"), ("tell", "y")), 12, 11, wide=12)

    def test_without_set_rows_and_without_rows(self):
        self.told(())
        self.told((TELL_A, ("if", "a", (TELL_A,), ()), ("round", 3, (TELL_A,))))
        self.told((), inputs=())

    def test_kinds_of_what_is_told(self):
        told = widths(SAMPLE)
        self.assertIs(type(told), tuple)
        self.assertEqual([type(width) for width in told], [int] * 12)
        self.assertEqual(len(told), len(set_places(SAMPLE)))


class Widest(unittest.TestCase):
    def told(self, rows, *wanted, inputs=("a", "b")):
        self.assertEqual(widest((4, inputs, rows)), wanted)

    def test_the_greatest_of_each_name(self):
        self.told((number("x", 7), ("tell", "x"), number("x", 1), ("tell", "x"), number("y", 3),
                   number("y", 2), ("tell", "y")), ("x", 3), ("y", 2))

    def test_names_rise(self):
        self.told((number("b", 1), number("ab", 1), number("aa", 1), number("c", 1), SET_A),
                  ("a", 0), ("aa", 0), ("ab", 0), ("b", 0), ("c", 0))

    def test_no_name_that_is_an_input_alone(self):
        self.told((TELL_A, ("tell", "b")))
        self.told((SET_A, TELL_A, ("tell", "b")), ("a", 1))

    def test_none_of_its_rows_is_come_to(self):
        self.told((("round", 0, (number("c", 15), ("tell", "c"))), ("if", "a", (), ())), ("c", 0))
        self.told((number("c", 0), ("if", "c", (number("d", 9), ("tell", "d")), ())),
                  ("c", 0), ("d", 0))

    def test_without_set_rows(self):
        self.told(())
        self.told((), inputs=())

    def test_kinds_of_what_is_told(self):
        told = widest(SAMPLE)
        self.assertIs(type(told), tuple)
        for one in told:
            self.assertEqual([type(one)] + [type(part) for part in one], [tuple, str, int])


class Spared(unittest.TestCase):
    def test_what_all_widths_leave_out(self):
        rows = (number("x", 7), ("tell", "x"), copy("y", "a"), ("tell", "y"), number("z", 1))
        self.assertEqual(spared((4, ("a",), rows)), 1 + 0 + 4)
        self.assertEqual(spared((12, ("a",), rows)), 9 + 0 + 12)

    def test_also_of_rows_that_are_not_come_to(self):
        self.assertEqual(spared((4, ("a",), (("round", 0, (SET_A, TELL_A)),))), 4)

    def test_without_set_rows(self):
        self.assertEqual(spared((4, ("a",), (TELL_A,))), 0)
        self.assertEqual(spared((4, (), ())), 0)
        self.assertIs(type(spared((4, (), ()))), int)


class ByChance(unittest.TestCase):
    PROGRAMS = sound_programs(500)

    def test_widths_by_what_is_known_and_needed(self):
        for program in self.PROGRAMS + [SAMPLE]:
            told = widths(program)
            self.assertEqual(told, widths_by_hand(program))
            rows = [places_of(program)[place] for place in set_places(program)]
            names = sorted({row[1] for row in rows})
            self.assertEqual(widest(program), tuple(
                (name, max(width for row, width in zip(rows, told) if row[1] == name))
                for name in names))
            self.assertEqual(spared(program), program[0] * len(told) - sum(told))

    def test_narrowed_by_them_or_by_wider_ones_the_same_is_told(self):
        chance = random.Random(6)
        for program in self.PROGRAMS:
            own = widths(program)
            for words in all_words(program)[:32]:
                tellings = tuple(Walk(program, words).tellings)
                self.assertEqual(narrowed(program, own, words), tellings)
                wider = tuple(chance.randint(width, program[0]) for width in own)
                self.assertEqual(narrowed(program, wider, words), tellings)


if __name__ == "__main__":
    unittest.main()
