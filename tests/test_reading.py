import random
import unittest

from bitneed.errors import BadText
from bitneed.forms import is_program
from bitneed.reading import program_in
from bitneed.showing import program_text
from tests.kit import (ALL_EXPRS, ODD, SAMPLE, SAMPLE_TEXT, TELL_A, WORD_NAMED, WORD_NAMED_TEXT,
                       Maker, one_in_another, rows_of_many)

HEAD = "wide 4\nin a\n"

# A line for each kind of row, and which kind of word each of its words is.
ROW_LINES = {
    "tell x": "kn", "if x": "kn", "round 12": "kg", "set x number 15": "knkw",
    "set x copy y": "knkn", "set x add y z": "knknn", "set x less y z": "knknn",
    "set x and y z": "knknn", "set x or y z": "knknn", "set x unlike y z": "knknn",
    "set x same y z": "knknn", "set x below y z": "knknn", "set x up y 11": "knkns",
    "set x down y 0": "knkns", "set x pick c y z": "knknnn",
}

# What can't stand for a word of that kind (in a program of 4 bits).
WRONG_NUMBERS = ["-1", "-0", "00", "01", "012", "+1", "1.0", "a", "12345", "0x1", "1e1", "one"]
WRONG = {
    "k": ["x", "sett", "Set", "5", "else", "end", "wide", "in", "numbers", "k"],
    "n": ["X", "a1", "abcdefghi", "5", "a-b", "a.b", "aA", "A", "-", "a_b"],
    "w": WRONG_NUMBERS + ["16", "9999"],
    "s": WRONG_NUMBERS + ["12", "15"],
    "g": WRONG_NUMBERS + ["13", "99"],
}


def closed(line):
    """A row's line with those that it wants behind it."""
    word = line.split()[0]
    return line + {"if": "\nelse\nend", "round": "\nend"}.get(word, "")


def opened(kinds):
    """The lines of rows within one another, not closed."""
    return "".join({"if": "if a\n", "else": "if a\nelse\n", "round": "round 1\n"}[kind]
                   for kind in kinds)


class ReadingTest(unittest.TestCase):
    def refused(self, text, line, word):
        with self.assertRaises(BadText) as held:
            program_in(text)
        self.assertEqual((held.exception.line, held.exception.word), (line, word), repr(text))

    def read(self, text, program):
        told = program_in(text)
        self.assertEqual(repr(told), repr(program))
        self.assertIs(is_program(told), True)


class Read(ReadingTest):
    def test_each_row(self):
        self.read(SAMPLE_TEXT, SAMPLE)
        self.read(WORD_NAMED_TEXT, WORD_NAMED)

    def test_each_expr(self):
        for expr in ALL_EXPRS:
            program = (3, (), (("set", "x", expr),))
            self.read(program_text(program), program)

    def test_no_rows(self):
        self.read("wide 8\nin", (8, (), ()))
        self.read("wide 12\nin a b c d", (12, ("a", "b", "c", "d"), ()))

    def test_numbers_up_to_their_edges(self):
        for wide in range(1, 13):
            for n in (0, 1, 2 ** wide - 1):
                program = (wide, (), (("set", "x", ("number", n)),))
                self.read(f"wide {wide}\nin\nset x number {n}", program)
        for n in range(13):
            self.read(f"wide 1\nin\nround {n}\nend", (1, (), (("round", n, ()),)))
        for k in range(12):
            self.read(f"wide 1\nin\nset x up x {k}\nset x down x {k}", (1, (), (
                ("set", "x", ("up", "x", k)), ("set", "x", ("down", "x", k)))))

    def test_inputs_alike(self):
        self.read("wide 8\nin a a a a", (8, ("a", "a", "a", "a"), ()))

    def test_names_are_not_looked_for(self):
        self.read("wide 8\nin\ntell z", (8, (), (("tell", "z"),)))

    def test_too_many_steps_are_not_looked_at(self):
        rows = (("round", 12, (("round", 12, (("round", 12, rows_of_many(3)),)),)),)
        self.read(program_text((8, ("a",), rows)), (8, ("a",), rows))

    def test_sixty_rows(self):
        self.read(HEAD + "tell a\n" * 60, (4, ("a",), (TELL_A,) * 60))
        rows = (("if", "a", (TELL_A,) * 29, (("round", 1, (TELL_A,) * 29),)),)
        self.read(program_text((4, ("a",), rows)), (4, ("a",), rows))

    def test_six_deep(self):
        for kinds in (["if"] * 5, ["round", "if", "round", "if", "round"],
                      ["if", "if", "round", "round", "round"]):
            for innermost in ((TELL_A,), (("if", "a", (), ()),), ()):
                program = (4, ("a",), one_in_another(kinds, innermost))
                self.read(program_text(program), program)

    def test_a_round_without_rows_six_deep(self):
        program = (4, ("a",), one_in_another(["if"] * 5, (("round", 2, ()),)))
        self.read(program_text(program), program)

    def test_three_rounds_beside_one_another(self):
        rows = (("round", 1, (("round", 1, (("round", 1, ()), ("round", 2, ()))),
                              ("round", 3, (("round", 1, ()),)))),)
        self.read(program_text((4, (), rows)), (4, (), rows))

    def test_what_is_written_of_programs_made_by_chance(self):
        for seed in range(800):
            program = Maker(seed).program()
            self.read(program_text(program), program)

    def test_blanks_and_lines_without_words(self):
        chance = random.Random(1)
        for program in [SAMPLE, WORD_NAMED] + [Maker(seed).program() for seed in range(200)]:
            lines = [""] * chance.choice([0, 1, 3])
            for line in program_text(program).split("\n"):
                spaced = [word + " " * chance.choice([1, 2, 7]) for word in line.split()]
                lines.append(" " * chance.choice([0, 1, 5]) + "".join(spaced))
                lines.extend([" " * chance.choice([0, 0, 3])] * chance.choice([0, 0, 1, 2]))
            self.read("\n".join(lines), program)

    def test_blanks_ahead_of_the_first_line_and_behind_the_last(self):
        self.read("\n  \n\n wide  8 \n\n  in\n\n   ", (8, (), ()))


class RefusedWords(ReadingTest):
    def test_a_word_otherwise(self):
        for line, kinds in ROW_LINES.items():
            self.assertIs(type(program_in(HEAD + closed(line))), tuple)
            words = line.split()
            for at, kind in enumerate(kinds):
                for other in WRONG[kind]:
                    text = HEAD + closed(" ".join(words[:at] + [other] + words[at + 1:]))
                    self.refused(text, 3, at + 1)

    def test_a_word_left_out(self):
        for line in ROW_LINES:
            words = line.split()
            for many in range(1, len(words)):
                self.refused(HEAD + closed(" ".join(words[:many])), 3, many + 1)

    def test_a_word_too_many(self):
        for line in ROW_LINES:
            for more in ("a", "5", "end", "-"):
                behind = closed(line)[len(line):]
                self.refused(HEAD + line + " " + more + behind, 3, len(line.split()) + 1)

    def test_the_word_of_a_row_where_that_of_an_expr_stands_and_the_other_way_about(self):
        self.refused(HEAD + "set x set y", 3, 3)
        self.refused(HEAD + "set x tell", 3, 3)
        self.refused(HEAD + "copy y", 3, 1)

    def test_line_of_wide(self):
        for other in ("0", "13", "-8", "08", "x", "8.", "123"):
            self.refused(f"wide {other}\nin", 1, 2)
        self.refused("wide\nin", 1, 2)
        self.refused("wide 8 8\nin", 1, 3)
        self.refused("Wide 8\nin", 1, 1)
        self.refused("8\nin", 1, 1)
        self.refused("in a\nwide 8", 1, 1)

    def test_line_of_in(self):
        self.refused("wide 8\nout", 2, 1)
        self.refused("wide 8\ntell a", 2, 1)
        self.refused("wide 8\nwide 8", 2, 1)
        for at in range(4):
            for other in WRONG["n"]:
                words = ["in", "a", "b", "c", "d"]
                words[at + 1] = other
                self.refused("wide 8\n" + " ".join(words), 2, at + 2)

    def test_a_fifth_input(self):
        for other in ("e", "a", "5", "E"):
            self.refused(f"wide 8\nin a b c d {other}\ntell a", 2, 6)
        self.refused("wide 8\nin a b c d e f", 2, 6)

    def test_numbers_that_are_no_words(self):
        for wide in range(1, 13):
            self.refused(f"wide {wide}\nin\nset x number {2 ** wide}", 3, 4)
            self.refused(f"wide {wide}\nin\nset x number -1", 3, 4)

    def test_wide_and_in_are_no_rows(self):
        self.refused("wide 8\nin a\nin b", 3, 1)
        self.refused("wide 8\nin a\nwide 8", 3, 1)

    def test_lines_are_counted_with_empty_ones(self):
        self.refused("\n\nwide 8\n\nin\n  \ntell A", 7, 2)
        self.refused("\nwide 8\n\n\nin a\n\n else", 7, 1)
        self.refused("   wide    0", 1, 2)

    def test_of_two_wrong_words_the_first(self):
        self.refused("wide 0\nin A", 1, 2)
        self.refused("wide 8\nin A\ntell A", 2, 2)
        self.refused(HEAD + "set X foo\ntell A", 3, 2)
        self.refused(HEAD + "set x foo 5 6 7 8", 3, 3)
        self.refused(HEAD + "set x add y\ntell A", 3, 5)
        self.refused(HEAD + "tell a a\nfoo", 3, 3)
        self.refused(HEAD + "if a\ntell A", 4, 2)
        self.refused(HEAD + "if A\nfoo", 3, 2)
        self.refused(HEAD + "foo\n" * 100, 3, 1)
        self.refused(HEAD + "tell a\n" * 59 + "tell A\ntell a", 62, 2)
        self.refused(HEAD + "tell a\n" * 60 + "tell A", 63, 1)


class RefusedRows(ReadingTest):
    def test_a_sixty_first_row(self):
        for line in ("tell a", "if a", "round 1", "set a number 1", "tell A", "tell"):
            self.refused(HEAD + "tell a\n" * 60 + line, 63, 1)
        self.refused(HEAD + "if a\nelse\nend\n" * 60 + "tell a", 183, 1)
        self.refused(HEAD + "if a\n" + "tell a\n" * 59 + "else\ntell a\nend", 64, 1)

    def test_an_else_and_an_end_are_no_rows(self):
        text = HEAD + "tell a\n" * 59 + "if a\nelse\nend\n"
        self.assertEqual(len(program_in(text)[2]), 60)
        self.refused(text + "else", 65, 1)

    def test_a_row_that_would_be_seven_deep(self):
        for kinds in (["if"] * 6, ["else"] * 6, ["round", "if", "round", "else", "round", "if"]):
            text = HEAD + opened(kinds)
            for line in ("tell a", "if a", "round 1", "set a number 1", "tell A"):
                self.refused(text + line, text.count("\n") + 1, 1)

    def test_in_the_second_rows_of_an_if_six_deep(self):
        text = HEAD + opened(["if"] * 6) + "else\n"
        self.refused(text + "tell a", 10, 1)

    def test_a_fourth_round_within_one_another(self):
        for kinds in (["round"] * 3, ["if", "round", "else", "round", "round"]):
            text = HEAD + opened(kinds)
            line = text.count("\n") + 1
            self.refused(text + "round 1", line, 1)
            self.refused(text + "round 99", line, 1)
        self.refused(HEAD + opened(["round", "round", "round", "if"]) + "else\nround 0", 8, 1)

    def test_an_else_that_closes_nothing(self):
        for text in ("else", "tell a\nelse", "round 1\nelse", "round 1\nend\nelse", "if a\nelse\nelse",
                     "if a\nelse\nend\nelse", "if a\nround 1\nelse", "if a\nelse\nround 1\nelse"):
            self.refused(HEAD + text, 2 + len(text.split("\n")), 1)
            self.refused(HEAD + text + " more\nfoo", 2 + len(text.split("\n")), 1)

    def test_an_end_that_closes_nothing(self):
        for text in ("end", "tell a\nend", "if a\nend", "if a\nelse\nend\nend", "round 1\nend\nend",
                     "round 1\nif a\nend", "if a\ntell a\nend"):
            self.refused(HEAD + text, 2 + len(text.split("\n")), 1)

    def test_what_stands_behind_an_else_or_an_end(self):
        for text in ("if a\nelse a", "if a\nelse\nend a", "round 1\nend 5", "if a\nelse else",
                     "round 1\nend end", "round 2\ntell a\nend a b"):
            self.refused(HEAD + text, 2 + len(text.split("\n")), 2)


class RefusedEnds(ReadingTest):
    def test_no_lines(self):
        self.refused("", 2, 1)
        self.refused("    ", 2, 1)
        self.refused("\n", 3, 1)
        self.refused("\n\n \n", 5, 1)

    def test_no_second_line(self):
        self.refused("wide 8", 2, 1)
        self.refused("wide 8\n", 3, 1)
        self.refused("\n\nwide 8\n\n  \n", 7, 1)

    def test_no_else(self):
        self.refused(HEAD + "if a", 4, 1)
        self.refused(HEAD + "if a\n", 5, 1)
        self.refused(HEAD + "if a\ntell a\n\n\n", 8, 1)

    def test_no_end(self):
        self.refused(HEAD + "if a\nelse", 5, 1)
        self.refused(HEAD + "round 3", 4, 1)
        self.refused(HEAD + "round 3\ntell a\n\n", 7, 1)
        self.refused(HEAD + "if a\nelse\nround 3\nend", 7, 1)
        self.refused(HEAD + opened(["if", "round", "else", "round", "if", "else"]), 11 + 1, 1)

    def test_a_text_cut_off_anywhere(self):
        lines = SAMPLE_TEXT.split("\n")
        for many in range(len(lines)):
            cut = lines[:many]
            opens = [line.split()[0] for line in cut]
            is_open = opens.count("if") + opens.count("round") > opens.count("end")
            if many < 2 or is_open:
                self.refused("\n".join(cut), max(many, 1) + 1, 1)
            else:
                self.assertIs(type(program_in("\n".join(cut))), tuple)

    def test_no_text(self):
        for thing in ODD + [SAMPLE, b"wide 8\nin", ["wide 8", "in"], ("wide 8\nin",)]:
            if type(thing) is not str:
                self.refused(thing, 0, 0)

    def test_refusals_are_bad_texts_of_whole_numbers(self):
        for text in ("", "wide 8", "wide x", None):
            with self.assertRaises(ValueError) as held:
                program_in(text)
            self.assertIs(type(held.exception.line), int)
            self.assertIs(type(held.exception.word), int)


class Mutated(ReadingTest):
    def test_each_word_of_a_text_put_otherwise(self):
        lines = [line.split(" ") for line in SAMPLE_TEXT.split("\n")]
        for at, words in enumerate(lines):
            for spot in range(len(words)):
                for other in ("Z", "99999", "-1", "a_b"):
                    put = lines[:at] + [words[:spot] + [other] + words[spot + 1:]] + lines[at + 1:]
                    self.refused("\n".join(map(" ".join, put)), at + 1, spot + 1)


if __name__ == "__main__":
    unittest.main()
