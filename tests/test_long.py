"""What is long is answered without delay: the limits are wide, for slow machines keep them, too."""

import itertools
import time
import unittest

from bitneed.bits import expr_facts
from bitneed.errors import BadText
from bitneed.reading import program_in
from bitneed.showing import program_text
from tests.kit import ALL_EXPRS, one_in_another

LONGEST = 12000


class LongTest(unittest.TestCase):
    def within(self, seconds, asked, *parts):
        """What is told, if it is told within that time."""
        begun = time.perf_counter()
        told = asked(*parts)
        self.assertLess(time.perf_counter() - begun, seconds)
        return told

    def refused_within(self, seconds, text, line, word):
        with self.assertRaises(BadText) as held:
            begun = time.perf_counter()
            program_in(text)
        self.assertLess(time.perf_counter() - begun, seconds)
        self.assertEqual((held.exception.line, held.exception.word), (line, word))


class LongTexts(LongTest):
    HEAD = "wide 12\nin a b\n"

    def padded(self, text, more):
        """The text with more behind it, as often as there is room for it."""
        return text + more * ((LONGEST - len(text)) // len(more))

    def test_many_blanks(self):
        gap = " " * 2000
        text = self.padded(f"wide{gap}12\n{gap}in a{gap}b\n{gap}tell{gap}a", " ")
        told = self.within(1, program_in, text)
        self.assertEqual(told, (12, ("a", "b"), (("tell", "a"),)))

    def test_many_lines(self):
        told = self.within(1, program_in, self.padded(self.HEAD, "\n"))
        self.assertEqual(told, (12, ("a", "b"), ()))
        told = self.within(1, program_in, self.padded(self.HEAD, " \n"))
        self.assertEqual(told, (12, ("a", "b"), ()))
        self.refused_within(1, "\n" * LONGEST, LONGEST + 2, 1)

    def test_many_words(self):
        self.refused_within(1, self.padded("wide 12\nin", " a"), 2, 6)
        self.refused_within(1, self.padded(self.HEAD + "tell a", " a"), 3, 3)
        self.refused_within(1, self.padded("", "a "), 1, 1)

    def test_many_rows(self):
        self.refused_within(1, self.padded(self.HEAD, "tell a\n"), 63, 1)
        self.refused_within(1, self.padded(self.HEAD, "if a\n"), 9, 1)
        self.refused_within(1, self.padded(self.HEAD, "round 1\n"), 6, 1)
        self.refused_within(1, self.padded(self.HEAD, "if a\nelse\nend\n"), 183, 1)

    def test_one_long_word(self):
        self.refused_within(1, self.padded("wide 12\nin ", "a"), 2, 2)
        self.refused_within(1, self.padded("wide ", "1"), 1, 2)

    def test_the_longest_program(self):
        row = ("set", "abcdefgh", ("pick", "abcdefgh", "ijklmnop", "qrstuvwx"))
        rows = one_in_another(["if", "if", "round", "round", "round"], (row,) * 55)
        program = (12, ("abcdefgh", "ijklmnop", "qrstuvwx", "yzabcdef"), rows)
        text = self.within(1, program_text, program)
        self.assertEqual(self.within(1, program_in, text), program)


class LongFacts(LongTest):
    def test_words_of_twelve_bits(self):
        some = [(0, 0), (4095, 0), (0, 4095), (0xAAA, 0x555), (0xF0F, 0), (0, 1), (1, 2048)]
        cases = [dict(zip("cyz", facts)) for facts in itertools.product(some, repeat=3)]

        def ask_all():
            for facts in cases:
                for expr in ALL_EXPRS:
                    expr_facts(12, expr, facts)

        self.within(2, ask_all)


if __name__ == "__main__":
    unittest.main()
