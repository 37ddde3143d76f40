import random
import unittest

from bitneed.bits import expr_facts
from bitneed.errors import BadPaper, BadProgram, Unsound
from bitneed.forms import places_of, set_places
from bitneed.fronts import facts_ahead
from bitneed.needs import needs
from bitneed.papers import check_facts, check_needs, facts_paper, needs_paper, paper_widths
from bitneed.running import narrowed
from bitneed.widths import widths
from tests.kit import (ODD, SAMPLE, SET_A, TELL_A, Walk, all_paths, all_words, as_lists, copy,
                       number, part_at, sound_programs, with_part)
from tests.papers_kit import (SMALL, are_facts_right, are_needs_right, more_needs, weaker_facts)


def facts_of(*texts):
    """A paper of a text "NAME ZEROS ONES, .." for each place, or None."""
    paper = []
    for text in texts:
        parts = [part.split() for part in text.split(", ")] if text else []
        paper.append(None if text is None else tuple(
            (name, int(zeros), int(ones)) for name, zeros, ones in parts))
    return tuple(paper)


def needs_in(*texts):
    """A paper of a text "NAME BITS, .." for each place."""
    paper = []
    for text in texts:
        parts = [part.split() for part in text.split(", ")] if text else []
        paper.append(tuple((name, int(bits)) for name, bits in parts))
    return tuple(paper)


class PapersTest(unittest.TestCase):
    def facts_right(self, program, *texts):
        self.assertIsNone(check_facts(program, facts_of(*texts)))

    def facts_wrong(self, program, *texts):
        self.not_facts(program, facts_of(*texts))

    def not_facts(self, program, paper):
        with self.assertRaises(BadPaper):
            check_facts(program, paper)
        for asked in (check_needs, paper_widths):
            for other in (needs_paper(program), "no paper"):
                with self.assertRaises(BadPaper):
                    asked(program, paper, other)

    def needs_right(self, program, *texts, facts=None):
        self.assertIsNone(check_needs(program, facts or facts_paper(program), needs_in(*texts)))

    def needs_wrong(self, program, *texts, facts=None):
        self.not_needs(program, facts or facts_paper(program), needs_in(*texts))

    def not_needs(self, program, facts, paper):
        self.assertIsNone(check_facts(program, facts))
        for asked in (check_needs, paper_widths):
            with self.assertRaises(BadPaper):
                asked(program, facts, paper)


class Told(PapersTest):
    PROGRAMS = sound_programs(200) + [SAMPLE, SMALL, (4, (), ()), (4, ("a",), ())]

    def test_as_facts_and_needs_are_told(self):
        for program in self.PROGRAMS:
            self.assertEqual(facts_paper(program), facts_ahead(program))
            self.assertEqual(needs_paper(program), tuple(ahead for ahead, _ in needs(program)))

    def test_they_are_right(self):
        for program in self.PROGRAMS:
            facts, needed = facts_paper(program), needs_paper(program)
            self.assertIsNone(check_facts(program, facts))
            self.assertIsNone(check_needs(program, facts, needed))
            self.assertEqual(paper_widths(program, facts, needed), widths(program))

    def test_kinds(self):
        facts, needed = facts_paper(SMALL), needs_paper(SMALL)
        self.assertIs(type(facts), tuple)
        self.assertIs(type(needed), tuple)
        self.assertEqual({type(part) for part in facts}, {tuple, type(None)})
        for part, kinds in ((facts, [str, int, int]), (needed, [str, int])):
            for one in [one for taken in part for one in taken or ()]:
                self.assertEqual([type(one)] + [type(some) for some in one], [tuple] + kinds)
        self.assertIs(type(paper_widths(SMALL, facts, needed)), tuple)

    def test_without_rows(self):
        self.assertEqual((facts_paper((4, ("a",), ())), needs_paper((4, ("a",), ()))), ((), ()))
        self.assertEqual(paper_widths((4, ("a",), ()), (), ()), ())
        for thing in (None, [], "", 0, False, {}, ((),), (None,)):
            self.not_facts((4, ("a",), ()), thing)
            self.not_needs((4, ("a",), ()), (), thing)


class FactsOfRows(PapersTest):
    def test_fewer_facts(self):
        program = (4, ("a",), (number("x", 6), ("set", "y", ("and", "a", "x")), ("tell", "y")))
        self.facts_right(program, "a 0 0", "a 0 0, x 9 6", "a 0 0, x 9 6, y 9 0")
        self.facts_right(program, "a 0 0", "a 0 0, x 9 6", "a 0 0, x 0 0, y 8 0")
        self.facts_right(program, "a 0 0", "a 0 0, x 8 2", "a 0 0, x 0 2, y 8 0")
        self.facts_right(program, "a 0 0", "a 0 0, x 0 0", "a 0 0, x 0 0, y 0 0")
        # What isn't taken isn't made any more behind it.
        self.facts_wrong(program, "a 0 0", "a 0 0, x 8 2", "a 0 0, x 9 6, y 8 0")
        self.facts_wrong(program, "a 0 0", "a 0 0, x 8 2", "a 0 0, x 8 2, y 9 0")

    def test_a_bit_more_at_one_place(self):
        program = (4, ("a",), (number("x", 6), TELL_A, ("tell", "x")))
        self.facts_wrong(program, "a 1 0", "a 0 0, x 9 6", "a 0 0, x 9 6")
        self.facts_wrong(program, "a 0 8", "a 0 0, x 9 6", "a 0 0, x 9 6")
        self.facts_wrong(program, "a 0 0", "a 1 0, x 9 6", "a 0 0, x 9 6")
        self.facts_wrong(program, "a 0 0", "a 0 0, x 9 6", "a 0 1, x 9 6")
        self.facts_wrong(program, "a 0 0", "a 0 0, x 8 7", "a 0 0, x 8 6")
        self.facts_wrong(program, "a 0 0", "a 0 0, x 13 2", "a 0 0, x 9 2")

    def test_a_bit_more_at_all_places_of_a_name(self):
        program = (4, ("a",), (number("x", 6), TELL_A, ("tell", "x")))
        self.facts_wrong(program, "a 1 0", "a 1 0, x 9 6", "a 1 0, x 9 6")
        self.facts_wrong(program, "a 0 1", "a 0 1, x 9 6", "a 0 1, x 9 6")
        self.facts_wrong(program, "a 0 0", "a 0 0, x 8 7", "a 0 0, x 8 7")

    def test_names_that_are_not_there_or_lack(self):
        program = (4, ("b", "a"), (number("x", 6), TELL_A))
        self.facts_right(program, "a 0 0, b 0 0", "a 0 0, b 0 0, x 9 6")
        for second in ("a 0 0, b 0 0", "a 0 0, x 9 6", "", "a 0 0, b 0 0, x 9 6, y 0 0",
                       "a 0 0, b 0 0, y 0 0", "aa 0 0, b 0 0, x 9 6", "b 0 0, a 0 0, x 9 6",
                       "a 0 0, b 0 0, b 0 0, x 9 6", "a 0 0, a 0 0, x 9 6", "x 9 6, b 0 0, a 0 0"):
            self.facts_wrong(program, "a 0 0, b 0 0", second)
        self.facts_wrong(program, "a 0 0, b 0 0, x 0 0", "a 0 0, b 0 0, x 9 6")
        self.facts_wrong(program, "b 0 0, a 0 0", "a 0 0, b 0 0, x 9 6")

    def test_no_facts_of_a_word(self):
        program = (2, ("a",), (number("x", 1), TELL_A))
        for facts in ((2, 3), (3, 1), (3, 3), (4, 1), (6, 1), (2, 5), (-1, 0), (0, -2), (10 ** 30, 0)):
            self.not_facts(program, ((("a", 0, 0),), (("a", 0, 0), ("x",) + facts)))
        for one in (("x", 2), ("x",), (), ("x", 2, 1, 0), ("x", (2, 1)), ("x", 2, None)):
            self.not_facts(program, ((("a", 0, 0),), (("a", 0, 0), one)))

    def test_too_short_or_too_long(self):
        told = facts_paper(SMALL)
        for paper in (told[:-1], told[1:], (), told + (None,), told + told[-1:], told + ((),)):
            self.not_facts(SMALL, paper)

    def test_none_where_a_place_is_come_to(self):
        told = facts_paper(SMALL)
        for place, part in enumerate(told):
            if part is not None:
                self.not_facts(SMALL, with_part(told, (place,), None))
                self.not_facts(SMALL, with_part(told, (place,), ()))

    def test_facts_where_it_is_not(self):
        told = facts_paper(SMALL)
        places = [place for place, part in enumerate(told) if part is None]
        self.assertGreater(len(places), 1)
        for place in places:
            for part in told[:place + 1]:
                if part is not None:
                    self.not_facts(SMALL, with_part(told, (place,), part))
            self.not_facts(SMALL, with_part(told, (place,), ()))

    def test_a_program_without_names_ahead(self):
        program = (4, (), (number("x", 6), ("tell", "x")))
        self.facts_right(program, "", "x 9 6")
        self.facts_wrong(program, None, "x 9 6")
        self.facts_wrong(program, None, None)


class FactsOfIfs(PapersTest):
    def test_ways_that_are_come_to_by_what_is_taken(self):
        program = (2, ("a",), (number("x", 1), ("if", "x", (copy("y", "a"),), (number("y", 1),)),
                               ("tell", "y")))
        self.facts_right(program, "a 0 0", "a 0 0, x 2 1", "a 0 0, x 2 1", None,
                         "a 0 0, x 2 1, y 0 0")
        self.facts_right(program, "a 0 0", "a 0 0, x 0 1", "a 0 0, x 0 1", None,
                         "a 0 0, x 0 1, y 0 0")
        # By fewer facts the second way is come to, too.
        self.facts_right(program, "a 0 0", "a 0 0, x 2 0", "a 0 0, x 2 1", "a 0 0, x 3 0",
                         "a 0 0, x 2 0, y 0 0")
        self.facts_right(program, "a 0 0", "a 0 0, x 2 0", "a 0 0, x 0 0", "a 0 0, x 0 0",
                         "a 0 0, x 0 0, y 0 0")
        self.facts_wrong(program, "a 0 0", "a 0 0, x 2 0", "a 0 0, x 2 1", None,
                         "a 0 0, x 2 0, y 0 0")
        self.facts_wrong(program, "a 0 0", "a 0 0, x 2 1", "a 0 0, x 2 1", "a 0 0, x 3 0",
                         "a 0 0, x 2 0, y 0 0")
        self.facts_wrong(program, "a 0 0", "a 0 0, x 2 0", "a 0 0, x 2 1", "a 0 0, x 3 0",
                         "a 0 0, x 2 1, y 0 0")

    def test_what_both_ends_have_in_common(self):
        program = (2, ("a",), (("if", "a", (number("y", 1),), (number("y", 3),)), ("tell", "y")))
        self.facts_right(program, "a 0 0", "a 0 0", "a 3 0", "a 0 0, y 0 1")
        self.facts_right(program, "a 0 0", "a 0 0", "a 3 0", "a 0 0, y 0 0")
        self.facts_wrong(program, "a 0 0", "a 0 0", "a 3 0", "a 0 0, y 2 1")
        self.facts_wrong(program, "a 0 0", "a 0 0", "a 3 0", "a 0 0, y 0 3")
        self.facts_wrong(program, "a 0 0", "a 0 0", "a 3 0", "a 0 0")

    def test_what_x_has_in_both_ways(self):
        program = (2, ("a",), (("set", "x", ("down", "a", 1)), ("if", "x", (TELL_A,), (TELL_A,))))
        self.facts_right(program, "a 0 0", "a 0 0, x 2 0", "a 0 0, x 2 1", "a 0 0, x 3 0")
        self.facts_right(program, "a 0 0", "a 0 0, x 0 0", "a 0 0, x 0 0", "a 0 0, x 1 0")
        self.facts_wrong(program, "a 0 0", "a 0 0, x 0 0", "a 0 0, x 0 1", "a 0 0, x 3 0")
        self.facts_wrong(program, "a 0 0", "a 0 0, x 0 0", "a 0 0, x 2 0", "a 0 0, x 3 0")

    def test_a_way_without_rows(self):
        program = (2, ("a",), (("if", "a", (number("a", 0),), ()), TELL_A))
        self.facts_right(program, "a 0 0", "a 0 0", "a 3 0")
        self.facts_wrong(program, "a 0 0", "a 0 0", "a 0 1")
        program = (2, ("a",), (("if", "a", (), (number("a", 1),)), TELL_A))
        self.facts_right(program, "a 0 0", "a 3 0", "a 0 0")
        self.facts_wrong(program, "a 0 0", "a 3 0", "a 0 1")
        program = (1, ("a",), (("if", "a", (), (number("a", 1),)), TELL_A))
        self.facts_right(program, "a 0 0", "a 1 0", "a 0 1")
        self.facts_right(program, "a 0 0", "a 0 0", "a 0 1")

    def test_names_behind_it_where_one_way_alone_is_come_to(self):
        program = (2, ("a",), (SET_A, ("if", "a", (number("y", 1), number("z", 1)), (
            number("y", 2), number("x", 1))), ("tell", "y")))
        self.facts_right(program, "a 0 0", "a 2 1", "a 2 1", "a 2 1, y 2 1", None, None,
                         "a 2 1, y 2 1")
        self.facts_wrong(program, "a 0 0", "a 2 1", "a 2 1", "a 2 1, y 2 1", None, None,
                         "a 2 1, y 2 1, z 2 1")
        self.facts_wrong(program, "a 0 0", "a 2 1", "a 2 1", "a 2 1, y 2 1", None, None, "a 2 1")


class FactsOfRounds(PapersTest):
    def test_made_at_the_beginning_and_at_the_end(self):
        program = (2, ("a",), (number("x", 1), ("round", 2, (("tell", "x"), number("x", 3))),
                               ("tell", "x")))
        self.facts_right(program, "a 0 0", "a 0 0, x 2 1", "a 0 0, x 0 1", "a 0 0, x 0 1",
                         "a 0 0, x 0 3")
        self.facts_right(program, "a 0 0", "a 0 0, x 2 1", "a 0 0, x 0 0", "a 0 0, x 0 0",
                         "a 0 0, x 0 3")
        # Made at its beginning, but not at its end; then the other way about.
        self.facts_wrong(program, "a 0 0", "a 0 0, x 2 1", "a 0 0, x 2 1", "a 0 0, x 2 1",
                         "a 0 0, x 0 3")
        self.facts_wrong(program, "a 0 0", "a 0 0, x 2 1", "a 0 0, x 0 3", "a 0 0, x 0 3",
                         "a 0 0, x 0 3")
        self.facts_wrong(program, "a 0 0", "a 0 0, x 2 0", "a 0 0, x 0 1", "a 0 0, x 0 1",
                         "a 0 0, x 0 3")

    def test_the_end_goes_by_what_is_taken(self):
        program = (2, ("a",), (number("x", 1), ("round", 2, (copy("y", "x"), copy("x", "y"))),
                               ("tell", "x")))
        self.facts_right(program, "a 0 0", "a 0 0, x 2 1", "a 0 0, x 2 1", "a 0 0, x 2 1, y 2 1",
                         "a 0 0, x 2 1, y 2 1")
        self.facts_wrong(program, "a 0 0", "a 0 0, x 2 1", "a 0 0, x 2 1", "a 0 0, x 2 1, y 2 0",
                         "a 0 0, x 2 0, y 2 0")
        self.facts_right(program, "a 0 0", "a 0 0, x 2 1", "a 0 0, x 2 0", "a 0 0, x 2 0, y 2 0",
                         "a 0 0, x 2 0, y 2 0")
        self.facts_wrong(program, "a 0 0", "a 0 0, x 2 1", "a 0 0, x 2 0", "a 0 0, x 2 0, y 2 0",
                         "a 0 0, x 2 1, y 2 0")

    def test_a_round_of_one_likewise(self):
        program = (2, (), (number("x", 1), ("round", 1, (("tell", "x"), number("x", 3)))))
        self.facts_right(program, "", "x 2 1", "x 0 1", "x 0 1")
        self.facts_wrong(program, "", "x 2 1", "x 2 1", "x 2 1")

    def test_of_none(self):
        program = (2, ("a",), (("round", 0, (number("b", 1), TELL_A)), TELL_A))
        self.facts_right(program, "a 0 0", None, None, "a 0 0")
        self.facts_wrong(program, "a 0 0", "a 0 0", "a 0 0, b 2 1", "a 0 0")
        self.facts_wrong(program, "a 0 0", None, "a 0 0, b 2 1", "a 0 0")
        self.facts_wrong(program, "a 0 0", None, None, "a 0 0, b 2 1")

    def test_without_rows(self):
        program = (2, (), (number("x", 1), ("round", 2, ()), ("tell", "x")))
        self.facts_right(program, "", "x 2 1", "x 2 1")
        self.facts_wrong(program, "", "x 2 0", "x 2 1")

    def test_within_one_another(self):
        rows = (number("x", 1), ("round", 2, (("round", 2, (("tell", "x"), number("x", 3))),
                                              number("x", 1))), ("tell", "x"))
        program = (2, (), rows)
        self.facts_right(program, "", "x 2 1", "x 2 1", "x 0 1", "x 0 1", "x 0 3", "x 2 1")
        self.facts_wrong(program, "", "x 2 1", "x 2 1", "x 2 1", "x 2 1", "x 0 3", "x 2 1")
        self.facts_wrong(program, "", "x 2 1", "x 2 1", "x 0 1", "x 0 1", "x 0 1", "x 0 3")


class NeedsOfRows(PapersTest):
    PROGRAM = (4, ("a", "b"), (copy("x", "a"), number("m", 6), ("set", "t", ("and", "x", "m")),
                               ("tell", "t")))

    def test_more_needs(self):
        self.needs_right(self.PROGRAM, "a 6", "x 6", "m 15, x 6", "t 15")
        self.needs_right(self.PROGRAM, "a 7", "x 7", "m 15, x 7", "t 15")
        self.needs_right(self.PROGRAM, "a 15, b 3", "b 1, x 6", "b 1, m 15, x 6", "t 15")
        self.needs_right(self.PROGRAM, "a 15, b 15", "a 15, b 15, x 15", "a 15, b 15, m 15, x 15",
                         "a 15, b 15, m 15, t 15, x 15")

    def test_a_bit_that_lacks(self):
        for paper in (["a 2", "x 6", "m 15, x 6", "t 15"], ["", "x 6", "m 15, x 6", "t 15"],
                      ["a 6", "x 4", "m 15, x 6", "t 15"], ["a 6", "x 6", "m 15", "t 15"],
                      ["a 6", "x 6", "m 14, x 6", "t 15"], ["a 6", "x 6", "m 15, x 6", "t 7"],
                      ["a 6", "x 6", "m 15, x 6", ""], ["", "", "", ""],
                      ["a 6", "x 7", "m 15, x 7", "t 15"], ["a 6", "x 6", "b 1, m 15, x 6", "t 15"]):
            self.needs_wrong(self.PROGRAM, *paper)

    def test_names(self):
        for last in ("t 15, x 1", "a 1, t 15", "a 15, b 15, m 15, t 15, x 15"):
            self.needs_right(self.PROGRAM, "a 15, b 15", "a 15, b 15, x 15",
                             "a 15, b 15, m 15, x 15", last)
        for last in ("t 15, c 1", "c 1, t 15", "t 15, a 1", "t 15, t 15", "t 15, t 1", "t 15, y 1"):
            self.needs_wrong(self.PROGRAM, "a 15, b 15", "a 15, b 15, x 15",
                             "a 15, b 15, m 15, x 15", last)
        self.needs_wrong(self.PROGRAM, "a 6, x 1", "x 6", "m 15, x 6", "t 15")
        self.needs_wrong(self.PROGRAM, "a 6", "m 1, x 6", "m 15, x 6", "t 15")

    def test_bits(self):
        told = needs_paper(self.PROGRAM)
        for bits in (0, -1, 16, 10 ** 30, True, None, "15", (15,)):
            self.not_needs(self.PROGRAM, facts_paper(self.PROGRAM), told[:3] + ((("t", bits),),))
            self.not_needs(self.PROGRAM, facts_paper(self.PROGRAM), told[:3] + (
                (("a", bits), ("t", 15)),))
        # Of a right paper but for a bit that is none of a WORD.
        program = (4, ("a", "b"), (TELL_A, TELL_A))
        self.needs_right(program, "a 15, b 15", "a 15, b 15")
        for wrong in ("a 31, b 15", "a 15, b 31", "a 15, b 16", "a 16, b 15", "a 17, b 15"):
            self.needs_wrong(program, wrong, "a 15")
        for one in (("t",), (), ("t", 15, 0), ("t", (15,)), (("t", 15),)):
            self.not_needs(self.PROGRAM, facts_paper(self.PROGRAM), told[:3] + ((one,),))

    def test_too_short_or_too_long(self):
        told = needs_paper(SMALL)
        for paper in (told[:-1], told[1:], (), told + ((),), told + told[-1:], told + (None,)):
            self.not_needs(SMALL, facts_paper(SMALL), paper)

    def test_where_the_facts_have_none(self):
        program = (2, ("a",), (("round", 0, (TELL_A, ("if", "a", (TELL_A,), ()))), TELL_A))
        self.needs_right(program, "a 3", "", "", "", "a 3")
        for at in (1, 2, 3):
            paper = ["a 3", "", "", "", "a 3"]
            paper[at] = "a 3"
            self.needs_wrong(program, *paper)
            told = with_part(needs_paper(program), (at,), None)
            self.not_needs(program, facts_paper(program), told)

    def test_by_the_facts_that_are_taken(self):
        # With fewer facts of m more of x is needed.
        fewer = facts_of("a 0 0, b 0 0", "a 0 0, b 0 0, x 0 0", "a 0 0, b 0 0, m 8 6, x 0 0",
                         "a 0 0, b 0 0, m 0 0, t 0 0, x 0 0")
        self.needs_right(self.PROGRAM, "a 7", "x 7", "m 15, x 7", "t 15", facts=fewer)
        self.needs_wrong(self.PROGRAM, "a 6", "x 6", "m 15, x 6", "t 15", facts=fewer)
        self.assertEqual(paper_widths(self.PROGRAM, fewer, needs_in("a 7", "x 7", "m 15, x 7", "t 15")),
                         (3, 3, 3))

    def test_facts_are_looked_at_first(self):
        for facts in (None, (), facts_paper(self.PROGRAM)[:-1]):
            for paper in (needs_paper(self.PROGRAM), None, ()):
                for asked in (check_needs, paper_widths):
                    with self.assertRaises(BadPaper):
                        asked(self.PROGRAM, facts, paper)


class NeedsOfIfsAndRounds(PapersTest):
    def test_of_an_if(self):
        program = (2, ("a", "b"), (("if", "a", (copy("x", "b"),), (number("x", 1),)), ("tell", "x")))
        self.needs_right(program, "a 3, b 3", "b 3", "", "x 3")
        self.needs_right(program, "a 3, b 3", "b 3", "a 1", "x 3")
        for paper in (["a 1, b 3", "b 3", "", "x 3"], ["b 3", "b 3", "", "x 3"],
                      ["a 3, b 1", "b 3", "", "x 3"], ["a 3, b 3", "b 1", "", "x 3"],
                      ["a 3", "b 3", "", "x 3"], ["a 3, b 1", "b 3", "b 1", "x 3"],
                      ["a 3, b 3", "b 3", "", ""]):
            self.needs_wrong(program, *paper)

    def test_a_lowest_one_by_the_facts_that_are_taken(self):
        program = (4, ("a",), (number("c", 12), ("if", "c", (TELL_A,), (TELL_A,)),
                               ("set", "x", ("pick", "c", "a", "c")), ("tell", "x")))
        self.needs_right(program, "a 15", "a 15, c 4", "a 15, c 4", "", "a 15, c 4", "x 15")
        self.needs_wrong(program, "a 15", "a 15, c 8", "a 15, c 4", "", "a 15, c 4", "x 15")
        self.needs_wrong(program, "a 15", "a 15, c 4", "a 15, c 4", "", "a 15, c 8", "x 15")
        fewer = facts_of("a 0 0", "a 0 0, c 3 8", "a 0 0, c 0 8", None, "a 0 0, c 0 8",
                         "a 0 0, c 0 0, x 0 0")
        self.needs_right(program, "a 15", "a 15, c 8", "a 15, c 8", "", "a 15, c 8", "x 15", facts=fewer)
        self.needs_wrong(program, "a 15", "a 15, c 4", "a 15, c 4", "", "a 15, c 4", "x 15", facts=fewer)
        none = facts_of("a 0 0", "a 0 0, c 0 0", "a 0 0, c 0 0", "a 0 0, c 15 0", "a 0 0, c 0 0",
                        "a 0 0, c 0 0, x 0 0")
        self.needs_right(program, "a 15", "a 15, c 15", "a 15, c 15", "a 15, c 15", "a 15, c 15",
                         "x 15", facts=none)
        self.needs_wrong(program, "a 15", "a 15, c 12", "a 15, c 15", "a 15, c 15", "a 15, c 15",
                         "x 15", facts=none)

    def test_the_second_way_alone(self):
        program = (2, ("a",), (number("c", 0), ("if", "c", (), (TELL_A,))))
        self.needs_right(program, "a 3", "a 3, c 3", "a 3")
        self.needs_wrong(program, "a 3", "a 3, c 1", "a 3")

    def test_of_a_way_without_rows_those_behind_the_if(self):
        program = (2, ("a", "b"), (("if", "b", (number("a", 1),), ()), TELL_A))
        self.needs_right(program, "a 3, b 3", "", "a 3")
        self.needs_wrong(program, "a 1, b 3", "", "a 3")
        self.needs_wrong(program, "b 3", "", "a 3")

    def test_an_idle_if_by_what_is_taken_behind_it(self):
        program = (2, ("a", "b"), (("if", "a", (number("x", 1), copy("y", "x")), ()), ("tell", "b")))
        self.needs_right(program, "b 3", "b 3", "b 3", "b 3")
        # Needs of no name that is set within it leave it idle.
        self.needs_right(program, "a 3, b 3", "a 3, b 3", "a 3, b 3", "a 3, b 3")
        program = (2, ("a", "b", "x"), program[2])
        self.needs_right(program, "b 3", "b 3", "b 3", "b 3")
        self.needs_right(program, "a 3, b 3, x 1", "b 3", "b 3, x 1", "b 3, x 1")
        self.needs_wrong(program, "b 3, x 1", "b 3", "b 3, x 1", "b 3, x 1")
        self.needs_wrong(program, "a 3, b 3", "b 3", "b 3, x 1", "b 3, x 1")

    def test_rows_within_an_idle_if_are_looked_at_all_the_same(self):
        rows = (("if", "a", (copy("x", "b"), copy("y", "x")), (copy("y", "a"),)), ("tell", "b"))
        program = (2, ("a", "b"), rows)
        self.needs_right(program, "b 3", "b 3", "b 3", "b 3", "b 3")
        self.needs_right(program, "b 3", "b 3", "b 3, x 3", "b 3", "b 3")
        self.needs_wrong(program, "b 3", "b 3", "x 3", "b 3", "b 3")
        self.needs_wrong(program, "b 3", "b 3", "b 3", "", "b 3")
        self.needs_wrong(program, "b 3", "b 1", "b 3, x 2", "b 3", "b 3")
        rows = (number("c", 0), ("if", "a", (("if", "c", (TELL_A,), ()),), ()), ("tell", "b"))
        # A tell that isn't come to, so no idle if.
        self.needs_wrong((2, ("a", "b"), rows), "b 3", "b 3, c 3", "b 3, c 3", "", "b 3")
        self.needs_right((2, ("a", "b"), rows), "a 3, b 3", "a 3, b 3, c 3", "b 3, c 3", "", "b 3")

    def test_of_a_round(self):
        program = (2, ("a", "b", "c"), (("round", 2, (copy("a", "b"), copy("b", "c"))), TELL_A))
        self.needs_right(program, "b 3, c 3", "b 3, c 3", "a 3, c 3", "a 3")
        # The needs ahead of its first row stand at its end, too, whatever is taken at its second one.
        self.needs_wrong(program, "b 3", "b 3", "a 3, c 3", "a 3")
        self.needs_wrong(program, "b 3", "b 3", "a 3", "a 3")
        self.needs_right(program, "a 1, b 3, c 3", "a 1, b 3, c 3", "a 3, c 3", "a 3")
        self.needs_wrong(program, "b 3", "b 3, c 3", "a 3, c 3", "a 3")
        self.needs_wrong(program, "b 3, c 3", "b 3, c 3", "a 1, c 3", "a 3")
        # What is taken ahead of the round alone doesn't stand at the end of its ROWS.
        self.needs_right(program, "a 2, b 3, c 3", "b 3, c 3", "a 3, c 3", "a 3")
        self.needs_wrong(program, "a 2, b 3, c 3", "a 2, b 3, c 3", "a 1, c 3", "a 3")

    def test_a_round_without_rows_or_of_none(self):
        for rows in ((("round", 2, ()), TELL_A), (("round", 0, ()), TELL_A)):
            self.needs_right((2, ("a", "b"), rows), "a 3", "a 3")
            self.needs_right((2, ("a", "b"), rows), "a 3, b 3", "a 3, b 1")
            self.needs_wrong((2, ("a", "b"), rows), "a 1", "a 3")
            self.needs_wrong((2, ("a", "b"), rows), "a 3", "a 3, b 1")

    def test_ifs_without_rows(self):
        program = (2, ("a", "b"), (("if", "a", (), ()), ("tell", "b")))
        self.needs_right(program, "b 3", "b 3")
        self.needs_right(program, "a 3, b 3", "b 3")
        self.needs_wrong(program, "a 3", "b 3")


class OddPapers(PapersTest):
    FACTS = facts_paper(SMALL)
    NEEDS = needs_paper(SMALL)

    def test_things_of_any_kind_in_any_place_of_the_paper(self):
        for path in all_paths(self.FACTS):
            for thing in ODD:
                if thing is not None or part_at(self.FACTS, path) is not None:
                    with self.assertRaises(BadPaper):
                        check_facts(SMALL, with_part(self.FACTS, path, thing))
        for path in all_paths(self.NEEDS):
            for thing in ODD:
                with self.assertRaises(BadPaper):
                    check_needs(SMALL, self.FACTS, with_part(self.NEEDS, path, thing))
                with self.assertRaises(BadPaper):
                    paper_widths(SMALL, self.FACTS, with_part(self.NEEDS, path, thing))

    def test_lists_for_tuples(self):
        for paper, asked in ((self.FACTS, lambda paper: check_facts(SMALL, paper)),
                             (self.NEEDS, lambda paper: check_needs(SMALL, self.FACTS, paper))):
            for path in all_paths(paper):
                part = part_at(paper, path)
                if isinstance(part, tuple):
                    for other in (list(part), as_lists(part)):
                        with self.assertRaises(BadPaper):
                            asked(with_part(paper, path, other))
            self.assertIsNone(asked(paper))

    def test_truths_for_numbers_right_after_a_good_paper(self):
        for paper, asked in ((self.FACTS, lambda paper: check_facts(SMALL, paper)),
                             (self.NEEDS, lambda paper: check_needs(SMALL, self.FACTS, paper))):
            paths = [path for path in all_paths(paper) if type(part_at(paper, path)) is int
                     and part_at(paper, path) in (0, 1)]
            self.assertGreater(len(paths), 0)
            for path in paths:
                other = with_part(paper, path, bool(part_at(paper, path)))
                self.assertEqual(other, paper)
                for _ in range(2):
                    self.assertIsNone(asked(paper))
                    with self.assertRaises(BadPaper):
                        asked(other)

    def test_a_paper_of_needs_for_one_of_facts(self):
        for facts, needed in ((self.NEEDS, self.FACTS), (self.NEEDS, self.NEEDS)):
            self.not_facts(SMALL, facts)
        self.not_needs(SMALL, self.FACTS, self.FACTS)

    def test_papers_of_another_program(self):
        other = (2, ("a", "c"), SMALL[2][:2])
        self.not_facts(other, self.FACTS)
        self.not_facts(SMALL, facts_paper((3,) + SMALL[1:]))


class ByChance(PapersTest):
    PROGRAMS = sound_programs(220)

    def verdict(self, asked, *parts):
        try:
            self.assertIsNone(asked(*parts))
        except BadPaper:
            return False
        return True

    def changed(self, paper, place, chance, wide):
        """The paper with one thing in one part otherwise."""
        part = paper[place]
        if part is None:
            return with_part(paper, (place,), chance.choice([()] + [one for one in paper if one]))
        if not part:
            return with_part(paper, (place,), None if chance.random() < 0.5 else (("a", 1),))
        at = chance.randrange(len(part))
        name, *bits = part[at]
        which = chance.randrange(len(bits))
        bits[which] ^= 1 << chance.randrange(wide)
        other = chance.choice([((name, *bits),)] * 12 + [(), ((name, *bits),) * 2])
        return with_part(paper, (place,), part[:at] + other + part[at + 1:])

    def test_papers_changed_at_one_place(self):
        chance = random.Random(10)
        told = {True: 0, False: 0}
        for program in [program for program in self.PROGRAMS if program[2]]:
            for facts in (facts_paper(program), weaker_facts(program, chance)):
                needed = more_needs(program, facts, chance)
                for place in range(len(facts)):
                    other = self.changed(facts, place, chance, program[0])
                    right = are_facts_right(program, other)
                    self.assertIs(self.verdict(check_facts, program, other), right)
                    told[right] += 1
                    other = self.changed(needed, place, chance, program[0])
                    right = are_needs_right(program, facts, other)
                    self.assertIs(self.verdict(check_needs, program, facts, other), right)
                    self.assertIs(self.verdict_of_widths(program, facts, other), right)
                    told[right] += 1
        self.assertGreater(min(told.values()), 100)

    def verdict_of_widths(self, *parts):
        try:
            paper_widths(*parts)
        except BadPaper:
            return False
        return True

    def test_what_right_papers_take_is_so_in_every_run(self):
        chance = random.Random(11)
        for program in self.PROGRAMS:
            facts = weaker_facts(program, chance)
            self.assertIsNone(check_facts(program, facts))
            for words in all_words(program)[:16]:
                for place, _, there in Walk(program, words).arrivals:
                    self.assertIsNotNone(facts[place])
                    for name, zeros, ones in facts[place]:
                        self.assertEqual((there[name] & zeros, there[name] & ones), (0, ones))

    def widths_by_hand(self, program, facts, needed):
        behind = Behind(program, needed).behind
        told = []
        for place in set_places(program):
            row, taken = places_of(program)[place], facts[place]
            width = 0
            if taken is not None:
                zeros, _ = expr_facts(program[0], row[2], {name: tuple(bits) for name, *bits in taken})
                wanted = behind[place].get(row[1], 0)
                width = max([bit + 1 for bit in range(program[0])
                             if wanted >> bit & 1 and not zeros >> bit & 1], default=0)
            told.append(width)
        return tuple(told)

    def test_widths_by_right_papers(self):
        chance = random.Random(12)
        wider = 0
        for program in self.PROGRAMS:
            facts = weaker_facts(program, chance)
            needed = more_needs(program, facts, chance)
            self.assertIsNone(check_needs(program, facts, needed))
            told = paper_widths(program, facts, needed)
            self.assertEqual(told, self.widths_by_hand(program, facts, needed))
            wider += told != widths(program)
            for words in all_words(program)[:16]:
                tellings = tuple(Walk(program, words).tellings)
                self.assertEqual(narrowed(program, told, words), tellings)
                more = tuple(chance.randint(width, program[0]) for width in told)
                self.assertEqual(narrowed(program, more, words), tellings)
        self.assertGreater(wider, 20)


class Behind:
    """The needs that a paper has behind each place."""

    def __init__(self, program, paper):
        self.paper = [dict(part) for part in paper]
        self.behind = [{} for _ in paper]
        self.rows(program[2], 0, {})

    def rows(self, rows, place, end):
        for at, row in enumerate(rows):
            here = place
            place = self.within(row, here)
            self.behind[here] = self.paper[place] if at + 1 < len(rows) else end
            behind = self.behind[here]
            if row[0] == "if":
                second = self.rows(row[2], here + 1, behind)
                self.rows(row[3], second, behind)
            elif row[0] == "round" and row[2]:
                first = self.paper[here + 1]
                self.rows(row[2], here + 1, {name: behind.get(name, 0) | first.get(name, 0)
                                             for name in {**behind, **first}})
        return place

    def within(self, row, place):
        return place + 1 + sum(self.within(other, 0) for way in row[2:] if row[0] in ("if", "round")
                               for other in way)


class Refused(unittest.TestCase):
    def test_as_need_program(self):
        for asked in (facts_paper, needs_paper, lambda program: check_facts(program, "no paper"),
                      lambda program: check_needs(program, "no paper", "no paper"),
                      lambda program: paper_widths(program, "no paper", "no paper")):
            with self.assertRaises(BadProgram):
                asked((4, ("a",), (("tell", 1),)))
            with self.assertRaises(Unsound) as held:
                asked((4, ("a",), (TELL_A, ("tell", "z"))))
            self.assertEqual((held.exception.place, held.exception.what), (1, "name"))


if __name__ == "__main__":
    unittest.main()
