"""What is told is the asker's own, and asked again the same is told."""

import copy
import unittest

from bitneed.bits import (common_facts, expr_facts, first_facts, greatest_word, is_facts,
                          least_word, ways_of)
from bitneed.errors import BadPlace, BadProgram, BitError, Unsound
from bitneed.forms import (first_wrong, is_program, names_at, need_program, places_of, put_at,
                           set_places, uses)
from bitneed.fronts import facts_ahead
from bitneed.losing import loses, lossless
from bitneed.needs import is_idle, needs, needs_of
from bitneed.desk import all_said
from bitneed.papers import check_facts, check_needs, facts_paper, needs_paper, paper_widths
from bitneed.plain import is_plain, made_plain, plain_at
from bitneed.reading import program_in
from bitneed.rules import rewritten, same_but_names
from bitneed.running import narrowed, run, steps
from bitneed.showing import expr_text, program_text
from bitneed.truly import alone, holds_truly, together
from bitneed.trying import apart_by_widths, counting, put_in, told_apart, turned
from bitneed.widths import spared, widest, widths
from bitneed.words import is_name, is_whole, number_in, rows_of
from tests.kit import ALL_EXPRS, SAMPLE, SAMPLE_NAMES, SAMPLE_TEXT, TELL_A, as_lists

UNSOUND = (8, ("a",), (TELL_A, ("tell", "z")))

FACTS = {"c": (0, 0), "y": (5, 2), "z": (8, 0)}

SMALL = (2,) + SAMPLE[1:]
PAPER = facts_paper(SAMPLE)
OTHER_PAPER = needs_paper(SAMPLE)

ASKED = [
    (is_whole, 3, 0, 5), (is_name, "abc"), (number_in, "-12"), (rows_of, " a b\n\nc"),
    (is_program, SAMPLE), (is_program, [SAMPLE]), (first_wrong, SAMPLE), (first_wrong, UNSOUND),
    (first_wrong, ()), (need_program, SAMPLE), (need_program, UNSOUND), (need_program, ()),
    (uses, SAMPLE[2][4]), (uses, SAMPLE[2][3]), (places_of, SAMPLE), (places_of, UNSOUND),
    (set_places, SAMPLE), (set_places, None), (names_at, SAMPLE, 6), (names_at, SAMPLE, 19),
    (names_at, SAMPLE, True), (put_at, SAMPLE, 6, (TELL_A,)), (put_at, SAMPLE, 8, ()),
    (put_at, SAMPLE, "0", ()), (put_at, UNSOUND, 0, ()),
    (program_text, SAMPLE), (program_in, SAMPLE_TEXT), (program_in, "wide 8\nin\ntell A"),
    (program_in, SAMPLE), (is_facts, 4, (1, 2)), (is_facts, 4, [1, 2]), (least_word, (1, 2)),
    (greatest_word, 4, (1, 2)), (common_facts, (1, 2), (3, 0)), (ways_of, 4, (1, 2)),
    (first_facts, 4, (7, 0)), (expr_facts, 4, ("copy", "x"), FACTS),
    (expr_facts, 4, ("copy", "y"), [FACTS]),
    (facts_ahead, SAMPLE), (facts_ahead, UNSOUND), (run, SAMPLE, (1, 2)), (run, SAMPLE, (1, 256)),
    (steps, SAMPLE, (0, 255)), (narrowed, SAMPLE, (4,) * 12, (1, 2)), (narrowed, SAMPLE, (), ()),
    (loses, SAMPLE), (lossless, SAMPLE), (needs, SAMPLE), (needs, ()), (needs_of, SAMPLE),
    (is_idle, SAMPLE, 2), (is_idle, SAMPLE, 19),
    (widths, SAMPLE), (widths, UNSOUND), (widest, SAMPLE), (spared, SAMPLE),
    (facts_paper, SAMPLE), (needs_paper, SAMPLE), (check_facts, SAMPLE, PAPER),
    (check_facts, SAMPLE, PAPER[1:]), (check_facts, SAMPLE, list(PAPER)),
    (check_needs, SAMPLE, PAPER, OTHER_PAPER), (check_needs, SAMPLE, PAPER, PAPER),
    (check_needs, SAMPLE, PAPER, as_lists(OTHER_PAPER)),
    (paper_widths, SAMPLE, PAPER, OTHER_PAPER), (paper_widths, SAMPLE, PAPER, ()),
    (holds_truly, SMALL, (2,) * 12), (holds_truly, SMALL, (0,) * 12), (holds_truly, SMALL, [2] * 12),
    (holds_truly, SAMPLE, (2,) * 12), (alone, SMALL, 0), (alone, SMALL, 2), (together, SMALL),
    (made_plain, SAMPLE), (plain_at, SAMPLE, 2), (plain_at, SAMPLE, 19), (is_plain, SAMPLE),
    (rewritten, SAMPLE, "names", 0), (rewritten, SAMPLE, "turn", 10), (rewritten, SAMPLE, "into", 2),
    (rewritten, SAMPLE, "into", 3), (rewritten, SAMPLE, "none", 3), (same_but_names, SAMPLE, SMALL),
    (put_in, SMALL), (put_in, SAMPLE), (told_apart, SMALL, SMALL), (told_apart, SMALL, SAMPLE),
    (apart_by_widths, SMALL, (0,) * 12), (counting, SMALL, 0), (counting, SMALL, 17),
    (turned, SAMPLE, 0, 255, (1, 2)), (turned, SAMPLE, 0, 256, (1, 2)),
    (all_said, SAMPLE_TEXT, ["plain", "program", "back", "rule names 0", "widths", "run 1 2", "x"]),
    (all_said, "wide", []), (all_said, SAMPLE_TEXT, [None]),
] + [(expr_text, expr) for expr in ALL_EXPRS] + [(expr_facts, 4, expr, FACTS) for expr in ALL_EXPRS]


def told_of(asked):
    """What is told, or what is refused and how."""
    try:
        return asked[0](*asked[1:])
    except BitError as error:
        return (type(error), sorted(vars(error).items()))


def spoil(told):
    """Changes a list, and the lists in it, in all ways."""
    if isinstance(told, list):
        for part in told:
            spoil(part)
        told.append("more")
        told.reverse()
        told[0] = None
        told.extend([None] * 30)


class AskedAgain(unittest.TestCase):
    def test_the_same_is_told(self):
        first = [told_of(asked) for asked in ASKED]
        self.assertEqual([told_of(asked) for asked in reversed(ASKED)], first[::-1])

    def test_whatever_the_asker_does_to_it(self):
        kept = [copy.deepcopy(told_of(asked)) for asked in ASKED]
        for asked in ASKED * 2:
            spoil(told_of(asked))
        self.assertEqual([told_of(asked) for asked in ASKED], kept)

    def test_lists_are_made_anew(self):
        for asked in ASKED:
            told = told_of(asked)
            if isinstance(told, list):
                self.assertIsNot(told_of(asked), told)

    def test_what_one_asker_does_is_not_told_another(self):
        for asked in ([places_of, SAMPLE], [set_places, SAMPLE], [names_at, SAMPLE, 0],
                      [uses, TELL_A], [rows_of, "a b\nc"]):
            mine = told_of(asked)
            other = told_of(asked)
            spoil(mine)
            self.assertEqual(other, told_of(asked))

    def test_names_at_two_places_are_two_lists(self):
        one, other = names_at(SAMPLE, 2), names_at(SAMPLE, 3)
        self.assertEqual(one, other)
        spoil(one)
        self.assertEqual(other, SAMPLE_NAMES[3].split())

    def test_places_told_do_not_change_the_program(self):
        kept = copy.deepcopy(SAMPLE)
        spoil(places_of(SAMPLE))
        spoil(names_at(SAMPLE, 0))
        self.assertEqual(SAMPLE, kept)
        self.assertIsNone(first_wrong(SAMPLE))


class HandedIn(unittest.TestCase):
    def test_a_program_stays_as_it_was(self):
        kept = repr(SAMPLE)
        for asked in ASKED:
            told_of(asked)
        for place in range(19):
            put_at(SAMPLE, place, (TELL_A,))
        self.assertEqual(repr(SAMPLE), kept)

    def test_facts_stay_as_they_were(self):
        kept = repr(FACTS)
        for asked in ASKED:
            told_of(asked)
        self.assertEqual(repr(FACTS), kept)

    def test_lists_and_dicts_stay_as_they_were(self):
        for made in (lambda: as_lists(SAMPLE), lambda: {"a": [1]}, lambda: [8, ["a"], []],
                     lambda: (8, ["a", "b"], ()), lambda: (8, (), [[]])):
            thing = made()
            self.assertIs(is_program(thing), False)
            for asked in (first_wrong, need_program, places_of, set_places):
                with self.assertRaises(BadProgram):
                    asked(thing)
            self.assertEqual(thing, made())
            with self.assertRaises(BadPlace):
                names_at(SAMPLE, thing)
            self.assertEqual(thing, made())

    def test_a_list_becomes_a_program_only_where_it_is_made_one(self):
        inputs = ["a"]
        self.assertIs(is_program((8, inputs, (TELL_A,))), False)
        program = (8, tuple(inputs), (TELL_A,))
        self.assertIsNone(first_wrong(program))
        inputs.append("a")
        self.assertIsNone(first_wrong(program))

    def test_a_refusal_changes_nothing(self):
        before = names_at(SAMPLE, 18)
        for asked in ((names_at, SAMPLE, 19), (put_at, SAMPLE, -1, ()), (places_of, UNSOUND)):
            with self.assertRaises((BadPlace, Unsound)):
                asked[0](*asked[1:])
        self.assertEqual(names_at(SAMPLE, 18), before)


if __name__ == "__main__":
    unittest.main()
