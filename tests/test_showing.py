import unittest

from bitneed.forms import first_wrong, is_program
from bitneed.showing import expr_text, program_text
from tests.kit import (ALL_EXPRS, SAMPLE, SAMPLE_TEXT, TELL_A, WORD_NAMED, WORD_NAMED_TEXT,
                       one_in_another, rows_of_many)


class ExprText(unittest.TestCase):
    def test_each_of_the_twelve(self):
        told = [expr_text(expr) for expr in ALL_EXPRS]
        self.assertEqual(told, [
            "number 5", "copy y", "add y z", "less y z", "and y z", "or y z", "unlike y z",
            "same y z", "below y z", "up y 3", "down y 11", "pick c y z"])

    def test_numbers(self):
        for n in (0, 1, 9, 10, 100, 4095):
            self.assertEqual(expr_text(("number", n)), f"number {n}")
        self.assertEqual(expr_text(("up", "y", 0)), "up y 0")

    def test_one_name_more_than_once(self):
        self.assertEqual(expr_text(("pick", "y", "y", "y")), "pick y y y")

    def test_names_that_are_words_of_programs(self):
        self.assertEqual(expr_text(("add", "add", "set")), "add add set")


class ProgramText(unittest.TestCase):
    def test_of_a_program_with_each_row(self):
        self.assertEqual(program_text(SAMPLE), SAMPLE_TEXT)

    def test_each_expr_in_its_row(self):
        for expr in ALL_EXPRS:
            told = program_text((4, ("y", "z", "c"), (("set", "x", expr),)))
            self.assertEqual(told, "wide 4\nin y z c\nset x " + expr_text(expr))

    def test_without_inputs_nothing_stands_behind_in(self):
        self.assertEqual(program_text((8, (), ())), "wide 8\nin")
        self.assertEqual(program_text((8, (), (TELL_A,))), "wide 8\nin\ntell a")

    def test_inputs(self):
        self.assertEqual(program_text((1, ("b",), ())), "wide 1\nin b")
        self.assertEqual(program_text((12, ("d", "c", "b", "a"), ())), "wide 12\nin d c b a")

    def test_rows_within_that_are_none(self):
        rows = (("if", "a", (), ()), ("round", 0, ()), ("if", "a", (TELL_A,), ()),
                ("if", "a", (), (TELL_A,)))
        self.assertEqual(program_text((8, ("a",), rows)), "\n".join([
            "wide 8", "in a", "if a", "else", "end", "round 0", "end", "if a", "tell a", "else",
            "end", "if a", "else", "tell a", "end"]))

    def test_six_within_one_another(self):
        rows = one_in_another(["if", "round", "if", "round", "round"], (TELL_A,))
        self.assertEqual(program_text((8, ("a",), rows)), "\n".join([
            "wide 8", "in a", "if a", "round 1", "if a", "round 1", "round 1", "tell a", "end",
            "end", "else", "end", "end", "else", "end"]))

    def test_sixty_rows(self):
        told = program_text((8, ("a",), rows_of_many(60)))
        self.assertEqual(told, "wide 8\nin a" + "\nset a number 1" * 60)

    def test_names_that_are_words_of_programs(self):
        self.assertEqual(program_text(WORD_NAMED), WORD_NAMED_TEXT)

    def test_programs_with_a_wrong_place(self):
        # Which names are there is not looked at.
        program = (8, ("a", "a"), (("tell", "z"),))
        self.assertIs(is_program(program), True)
        self.assertEqual(first_wrong(program), (-1, "name"))
        self.assertEqual(program_text(program), "wide 8\nin a a\ntell z")

    def test_blanks_and_line_ends(self):
        for program in (SAMPLE, WORD_NAMED, (8, (), ())):
            told = program_text(program)
            for line in told.split("\n"):
                self.assertEqual(line, " ".join(line.split()))
                self.assertNotEqual(line, "")


if __name__ == "__main__":
    unittest.main()
