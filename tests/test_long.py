"""What is long is answered without delay: the limits are wide, for slow machines keep them, too."""

import itertools
import time
import unittest

from bitneed.bits import expr_facts
from bitneed.errors import BadText
from bitneed.forms import first_wrong, places_of, set_places
from bitneed.fronts import facts_ahead
from bitneed.losing import loses, lossless
from bitneed.needs import is_idle, needs, needs_of
from bitneed.desk import Desk, all_said
from bitneed.papers import check_facts, check_needs, facts_paper, needs_paper, paper_widths
from bitneed.plain import is_plain, made_plain, plain_at
from bitneed.reading import program_in
from bitneed.rules import rewritten, same_but_names
from bitneed.running import narrowed, run, steps
from bitneed.showing import program_text
from bitneed.truly import alone, holds_truly, together
from bitneed.trying import apart_by_widths, counting, put_in, told_apart
from bitneed.widths import spared, widest, widths
from tests.kit import ALL_EXPRS, copy, number, one_in_another
from tests.test_often import calls_of

LONGEST = 12000
RULES = ["names", "more", "twin", "one", "turn", "choose", "into"]


class LongTest(unittest.TestCase):
    def within(self, seconds, asked, *parts):
        """What is told, if it is told within that time."""
        begun = time.perf_counter()
        told = asked(*parts)
        self.assertLess(time.perf_counter() - begun, seconds)
        return told

    def refused_within(self, seconds, text, line, word):
        with self.assertRaises(BadText) as held:
            begun = time.perf_counter()
            program_in(text)
        self.assertLess(time.perf_counter() - begun, seconds)
        self.assertEqual((held.exception.line, held.exception.word), (line, word))


class LongTexts(LongTest):
    HEAD = "wide 12\nin a b\n"

    def padded(self, text, more):
        """The text with more behind it, as often as there is room for it."""
        return text + more * ((LONGEST - len(text)) // len(more))

    def test_many_blanks(self):
        gap = " " * 2000
        text = self.padded(f"wide{gap}12\n{gap}in a{gap}b\n{gap}tell{gap}a", " ")
        told = self.within(1, program_in, text)
        self.assertEqual(told, (12, ("a", "b"), (("tell", "a"),)))

    def test_many_lines(self):
        told = self.within(1, program_in, self.padded(self.HEAD, "\n"))
        self.assertEqual(told, (12, ("a", "b"), ()))
        told = self.within(1, program_in, self.padded(self.HEAD, " \n"))
        self.assertEqual(told, (12, ("a", "b"), ()))
        self.refused_within(1, "\n" * LONGEST, LONGEST + 2, 1)

    def test_many_words(self):
        self.refused_within(1, self.padded("wide 12\nin", " a"), 2, 6)
        self.refused_within(1, self.padded(self.HEAD + "tell a", " a"), 3, 3)
        self.refused_within(1, self.padded("", "a "), 1, 1)

    def test_many_rows(self):
        self.refused_within(1, self.padded(self.HEAD, "tell a\n"), 63, 1)
        self.refused_within(1, self.padded(self.HEAD, "if a\n"), 9, 1)
        self.refused_within(1, self.padded(self.HEAD, "round 1\n"), 6, 1)
        self.refused_within(1, self.padded(self.HEAD, "if a\nelse\nend\n"), 183, 1)

    def test_one_long_word(self):
        self.refused_within(1, self.padded("wide 12\nin ", "a"), 2, 2)
        self.refused_within(1, self.padded("wide ", "1"), 1, 2)

    def test_the_longest_program(self):
        row = ("set", "abcdefgh", ("pick", "abcdefgh", "ijklmnop", "qrstuvwx"))
        rows = one_in_another(["if", "if", "round", "round", "round"], (row,) * 55)
        program = (12, ("abcdefgh", "ijklmnop", "qrstuvwx", "yzabcdef"), rows)
        text = self.within(1, program_text, program)
        self.assertEqual(self.within(1, program_in, text), program)


class LongFacts(LongTest):
    def test_words_of_twelve_bits(self):
        some = [(0, 0), (4095, 0), (0, 4095), (0xAAA, 0x555), (0xF0F, 0), (0, 1), (1, 2048)]
        cases = [dict(zip("cyz", facts)) for facts in itertools.product(some, repeat=3)]

        def ask_all():
            for facts in cases:
                for expr in ALL_EXPRS:
                    expr_facts(12, expr, facts)

        self.within(2, ask_all)


def names(many):
    """Names that rise: aa, ab, .."""
    return [chr(97 + at // 26) + chr(97 + at % 26) for at in range(many)]


def of_many_names():
    """Each of fifty-five names is set by those ahead of it, and told of a few."""
    there = names(58)
    rows = [("set", there[at], ("add", there[at - 1], there[at - 2])) for at in range(3, 58)]
    return (12, tuple(there[:3]), tuple(rows) + tuple(("tell", name) for name in there[:5]))


def of_most_steps(more=0):
    """Three rounds within two ifs, 2,000 steps and more."""
    add = ("set", "a", ("add", "a", "b"))
    inner = ("round", 12, (("round", 1, (add,) * 12),))
    way = (("round", 12, (inner,) + (add,) * 8),)
    tells = (("tell", "a"),) * (17 + more)
    return (12, ("a", "b"), (("if", "b", (("if", "b", way, ()),), ()),) + tells)


def of_copies():
    """Within three rounds a word comes on by one name each time they are gone through."""
    there = names(28)
    rows = tuple(number(name, 0) for name in there)
    moves = tuple(copy(there[at], there[at - 1]) for at in reversed(range(1, 28)))
    within = one_in_another(["round"] * 3, moves + (number(there[0], 4095),))
    return (12, (), rows + within + (("tell", there[-1]),))


def counter(there, within):
    """A round by which a bit more of the names is open each time, the names one after another."""
    rows = list(within)
    for at in reversed(range(1, len(there))):
        rows.append(("set", "t", ("down", there[at - 1], 11)))
        rows.append(("set", there[at], ("add", there[at], "t")))
    return ("round", 1, tuple(rows) + (("set", there[0], ("add", there[0], "one")),))


def of_counters():
    """Three rounds within one another; what the inner ones count begins anew each time."""
    there = names(12)
    zeros = [number(name, 0) for name in there]
    innermost = counter(there[9:], [])
    inner = counter(there[5:9], zeros[9:] + [innermost])
    rows = zeros + [number("t", 0), number("one", 1), counter(there[:5], zeros[5:9] + [inner])]
    return (12, (), tuple(rows) + (("tell", there[4]),))


def of_deep_ways():
    """Six within one another, rounds and ifs, with words of eight letters."""
    row = ("set", "abcdefgh", ("pick", "abcdefgh", "ijklmnop", "qrstuvwx"))
    rows = one_in_another(["if", "round", "if", "round", "round"], (row,) * 55)
    return (12, ("abcdefgh", "ijklmnop", "qrstuvwx", "a"), rows)


class LongPrograms(LongTest):
    PROGRAMS = [of_many_names(), of_most_steps(), of_copies(), of_counters(), of_deep_ways()]

    def test_they_are_as_long_as_can_be(self):
        self.assertEqual([first_wrong(program) for program in self.PROGRAMS], [None] * 5)
        self.assertEqual(first_wrong(of_most_steps(1)), (-1, "long"))
        self.assertEqual(len(places_of(of_many_names())), 60)
        self.assertEqual(len(places_of(of_copies())), 60)
        self.assertEqual(len(places_of(of_deep_ways())), 60)

    def test_ten_times_each(self):
        for program in self.PROGRAMS:
            many = len(set_places(program))
            words = (1,) * len(program[1])
            facts, needed = facts_paper(program), needs_paper(program)
            for asked in ((facts_ahead,), (loses,), (lossless,), (needs,), (needs_of,),
                          (is_idle, 0), (run, words), (steps, words),
                          (narrowed, (11,) * many, words), (widths,), (widest,), (spared,),
                          (facts_paper,), (needs_paper,), (check_facts, facts),
                          (check_needs, facts, needed), (paper_widths, facts, needed),
                          (made_plain,), (plain_at, 0), (is_plain,), (same_but_names, program),
                          *[(rewritten, rule, 0) for rule in RULES]):
                self.within(4, self.ten_times, asked[0], program, *asked[1:])

    def ten_times(self, asked, *parts):
        first = asked(*parts)
        for _ in range(9):
            self.assertEqual(asked(*parts), first)

    def test_answers(self):
        there = names(28)
        copied = facts_ahead(of_copies())
        self.assertEqual(copied[28], tuple((name, 4095, 0) for name in there))
        self.assertEqual(copied[31], tuple((name, 0, 0) for name in there))
        counted = facts_ahead(of_counters())
        self.assertEqual(counted[-1], tuple((name, 0, 0) for name in names(12)) + (
            ("one", 4094, 1), ("t", 4094, 0)))
        self.assertEqual(dict(needs_of(of_many_names())), {"aa": 4095, "ab": 4095, "ac": 4095})


def of_set_rows(wide, inputs):
    """Twenty-four set rows, none of them for nothing, gone through in 2,000 steps."""
    there = list(inputs) + names(8 - len(inputs))
    zeros = tuple(number(name, 0) for name in there[len(inputs):])
    rows = []
    for at in range(24 - len(zeros)):
        kind = ("add", "unlike", "less", "or")[at % 4]
        rows.append(("set", there[at % 8], (kind, there[(at + 3) % 8], there[at * 5 % 8])))
    rounds = ("round", 12, (("round", 1980 // 12 // (len(rows) + 1), tuple(rows)),))
    return (wide, tuple(inputs), zeros + (rounds,) + tuple(("tell", name) for name in there))


class LongTrials(LongTest):
    def test_twenty_four_set_rows_and_eight_bits(self):
        for wide, inputs in ((8, "a"), (4, "ab"), (2, "abcd"), (12, "")):
            program = of_set_rows(wide, inputs)
            self.assertIsNone(first_wrong(program))
            places = set_places(program)
            self.assertEqual(len(places), 24)
            told = self.within(8, together, program)
            self.assertIs(self.within(1, holds_truly, program, told), True)
            self.assertIs(self.within(1, holds_truly, program, (wide,) * 24), True)
            for place in places[::6]:
                self.within(2, alone, program, place)
                self.within(2, counting, program, place)
            self.within(1, put_in, program)
            self.assertIsNone(self.within(1, told_apart, program, made_plain(program)))
            self.assertIsNone(self.within(1, apart_by_widths, program, told))
            self.within(1, apart_by_widths, program, (0,) * 24)

    def test_what_need_not_be_run_again_is_not(self):
        # Of each row the width 0 is tried alone: so wide as its word ever is, it changes nothing.
        there = names(24)
        rows = tuple(number(name, 1) for name in there) + tuple(("tell", name) for name in there)
        program = (8, ("a",), rows)
        self.assertEqual(together(program), (1,) * 24)
        one_going = calls_of(holds_truly, program, (8,) * 24) / 2
        self.assertLess(calls_of(together, program), one_going * 28)
        self.assertLess(calls_of(alone, program, 0), one_going * 3)

    def test_rows_that_are_told_by_some_alone(self):
        # Each tells as often as its word says, so none of them tells as often as another.
        tells = ("if", "a", (("tell", "b"), ("set", "a", ("less", "a", "one"))), ())
        program = (8, ("a",), (number("one", 1), copy("b", "a"), ("round", 12, (
            ("round", 12, (tells,)),)), ("round", 12, (("round", 10, (tells,)),))))
        self.assertEqual(self.within(4, together, program), (1, 8, 8, 7))


class LongDesks(LongTest):
    def test_three_hundred_lines_at_one_desk(self):
        kinds = ["facts {}", "needs {}", "behind {}", "alone {}", "rule more {}", "rule into {}",
                 "rule turn {}", "widths", "loses", "program", "run 1 1", "narrow 1 1", "together"]
        for program in LongPrograms.PROGRAMS:
            lines = [kinds[at % len(kinds)].format(at % 60) for at in range(300)]
            told = self.within(8, all_said, program_text(program), lines)
            self.assertEqual(len(told), 300)

    def test_lines_of_many_blanks(self):
        gap = " " * 5000
        desk = Desk("wide 4\nin a\ntell a")
        told = self.within(4, lambda: [desk.said(f"{gap}run{gap}{at % 16}{gap}") for at in range(300)])
        self.assertEqual(told, [f"{at % 16}, lost none" for at in range(300)])
        self.assertEqual(self.within(1, desk.said, gap * 2), "bad line")
        self.assertEqual(self.within(1, desk.said, "run" + " 1" * 5000), "bad input")
        self.assertEqual(self.within(1, desk.said, "x" * LONGEST), "bad line")

    def test_two_hundred_tellings_and_backs(self):
        for program in LongPrograms.PROGRAMS:
            for line in ("plain", "rule names 0"):
                lines = [line] * 200 + ["back"] * 201 + ["program"]
                told = self.within(8, all_said, program_text(program), lines)
                self.assertEqual(told[:401], ["done"] * 400 + ["nothing"])
                self.assertEqual(program_in(told[401].replace(" ; ", "\n")), program)

    def test_the_same_line_again_and_again(self):
        program = of_set_rows(8, "a")
        lines = ["together", "alone 9", "apart " + "8 " * 24] * 100
        told = self.within(8, all_said, program_text(program), lines)
        self.assertEqual(told, told[:3] * 100)


if __name__ == "__main__":
    unittest.main()
