"""Texts are read again and again: long ones, too."""

import time
import unittest

from bitneed.errors import BadText
from bitneed.reading import program_in
from bitneed.showing import program_text
from tests.test_often import calls_of

LINES = (["wide 12", "in a b"] + ["set abcdefgh pick abcdefgh ijklmnop qrstuvwx"] * 30
         + ["set x number 4095"] * 15 + ["set abcdefgh add ijklmnop qrstuvwx"] * 15)
TEXT = "\n".join(LINES)

PROGRAM = (12, ("a", "b"), (
    (("set", "abcdefgh", ("pick", "abcdefgh", "ijklmnop", "qrstuvwx")),) * 30
    + (("set", "x", ("number", 4095)),) * 15
    + (("set", "abcdefgh", ("add", "ijklmnop", "qrstuvwx")),) * 15))

# Rows of all kinds, of many names and numbers.
MIXED_LINES = ["wide 12", "in a b c d"]
MIXED_ROWS = []
for at in range(12):
    one, other = chr(97 + at), "z" + chr(97 + at)
    MIXED_LINES += [f"if {one}", f"set {other} up {one} {at}", "else", f"round {at}", f"tell {one}",
                    "end", f"set {other} number {at * 300}", "end"]
    MIXED_ROWS.append(("if", one, (("set", other, ("up", one, at)),), (
        ("round", at, (("tell", one),)), ("set", other, ("number", at * 300)))))
MIXED = "\n".join(MIXED_LINES)
MIXED_PROGRAM = (12, ("a", "b", "c", "d"), tuple(MIXED_ROWS))

# With blanks and lines without words put in wherever they may stand.
SPREAD = "\n \n" + TEXT.replace("\n", " \n\n   \n").replace(" ", "  ") + "\n" * 400
MANY_LINES = "\n" * 3000 + TEXT.replace("\n", "\n" * 90) + "\n \n" * 100
MANY_BLANKS = " " * 3000 + TEXT.replace("\n", " " * 90 + "\n") + " " * 1000


class OftenRead(unittest.TestCase):
    TEXTS = [(TEXT, PROGRAM), (MIXED, MIXED_PROGRAM), (SPREAD, PROGRAM), (MANY_LINES, PROGRAM),
             (MANY_BLANKS, PROGRAM)]

    def within(self, seconds, many, asked, *parts):
        begun = time.perf_counter()
        for _ in range(many):
            told = asked(*parts)
        self.assertLess(time.perf_counter() - begun, seconds)
        return told

    def refused(self, text, line, word):
        with self.assertRaises(BadText) as held:
            program_in(text)
        self.assertEqual((held.exception.line, held.exception.word), (line, word))

    def test_answers(self):
        for text, program in self.TEXTS:
            self.assertLessEqual(len(text), 12000)
            for _ in range(3):
                self.assertEqual(program_in(text), program)
        self.assertEqual(program_text(PROGRAM), TEXT)
        self.assertEqual(program_text(MIXED_PROGRAM), MIXED)

    def test_a_thousand_askings(self):
        # These take some hundredths of a second; a slow machine may take far longer.
        for text, program in ((TEXT, PROGRAM), (MIXED, MIXED_PROGRAM)):
            self.assertEqual(self.within(3, 1000, program_in, text), program)
            self.assertEqual(self.within(3, 1000, program_text, program), text)

    def test_a_hundred_askings_of_many_blanks_and_lines_without_words(self):
        for text, program in self.TEXTS[2:]:
            self.assertEqual(self.within(3, 100, program_in, text), program)

    def test_one_asking_makes_few_calls(self):
        # Word by word, each by calls of its own, there would be some three thousand of them.
        self.assertLess(calls_of(program_in, TEXT), 1100)
        self.assertLess(calls_of(program_in, MIXED), 1900)
        # A line without words makes no more than one.
        self.assertLess(calls_of(program_in, TEXT + "\n" * 5000) - calls_of(program_in, TEXT), 5100)

    def test_each_word_of_each_line_that_cannot_stand_there(self):
        for text, lines in ((TEXT, LINES), (MIXED, MIXED_LINES)):
            for at, line in enumerate(lines):
                words = line.split(" ")
                for word in range(len(words)):
                    for other in ("A", "-1", "abcdefghi"):
                        wrong = words[:word] + [other] + words[word + 1:]
                        self.refused_at(lines, at, wrong, word + 1)
                # One word too many; of INPUTS that is a fifth one.
                more = 6 - len(words) if at == 1 else 1
                self.refused_at(lines, at, words + ["a"] * more, len(words) + more)

    def refused_at(self, lines, at, words, word):
        """Refused at that word of the line, also with lines without words and blanks about it."""
        ahead, behind = lines[:at], lines[at + 1:]
        self.refused("\n".join(ahead + [" ".join(words)] + behind), at + 1, word)
        self.refused("\n \n" + "\n\n".join(ahead + ["  ".join(words)] + behind), 2 * at + 3, word)

    def test_a_refusal_leaves_nothing_behind(self):
        for text, program in self.TEXTS:
            self.refused(text + "\ntell a", text.count("\n") + 2, 1)
            self.assertEqual(program_in(text), program)
            # Names of one text are none of another one's.
            self.refused("wide 12\nin abcdefghi", 2, 2)


if __name__ == "__main__":
    unittest.main()
