"""All that asks about programs refuses as need_program does, ahead of all else."""

import unittest

from bitneed.errors import BadProgram, BitError, Unsound
from bitneed.forms import (first_wrong, is_program, names_at, need_program, places_of, put_at,
                           set_places)
from bitneed.fronts import facts_ahead
from bitneed.losing import loses, lossless
from bitneed.needs import is_idle, needs, needs_of
from bitneed.papers import check_facts, check_needs, facts_paper, needs_paper, paper_widths
from bitneed.plain import is_plain, made_plain, plain_at
from bitneed.rules import rewritten, same_but_names
from bitneed.running import narrowed, run, steps
from bitneed.truly import alone, holds_truly, together
from bitneed.trying import apart_by_widths, counting, put_in, told_apart, turned
from bitneed.widths import spared, widest, widths
from tests.kit import (ODD, SAMPLE, SET_A, TELL_A, Maker, all_paths, as_lists, one_in_another,
                       part_at, rows_of_many, with_part)

ASKERS = {
    "need_program": need_program,
    "places_of": places_of,
    "set_places": set_places,
    "names_at": lambda program: names_at(program, 0),
    "put_at": lambda program: put_at(program, 0, ()),
    "facts_ahead": facts_ahead,
    "run": lambda program: run(program, (1, 1)),
    "steps": lambda program: steps(program, (1, 1)),
    "narrowed": lambda program: narrowed(program, (1,) * 12, (1, 1)),
    "loses": loses,
    "lossless": lossless,
    "needs": needs,
    "needs_of": needs_of,
    "is_idle": lambda program: is_idle(program, 0),
    "widths": widths,
    "widest": widest,
    "spared": spared,
    "facts_paper": facts_paper,
    "needs_paper": needs_paper,
    "check_facts": lambda program: check_facts(program, facts_paper(SAMPLE)),
    "check_needs": lambda program: check_needs(program, facts_paper(SAMPLE), needs_paper(SAMPLE)),
    "paper_widths": lambda program: paper_widths(program, facts_paper(SAMPLE), needs_paper(SAMPLE)),
    "holds_truly": lambda program: holds_truly(program, (1,) * 12),
    "alone": lambda program: alone(program, 0),
    "together": together,
    "made_plain": made_plain,
    "plain_at": lambda program: plain_at(program, 0),
    "is_plain": is_plain,
    "rewritten": lambda program: rewritten(program, "names", 0),
    "same_but_names": lambda program: same_but_names(program, SAMPLE),
    "same_but_names, the other": lambda program: same_but_names(SAMPLE, program),
    "put_in": put_in,
    "told_apart": lambda program: told_apart(program, SAMPLE),
    "told_apart, the other": lambda program: told_apart(SAMPLE, program),
    "apart_by_widths": lambda program: apart_by_widths(program, (1,) * 12),
    "counting": lambda program: counting(program, 0),
    "turned": lambda program: turned(program, 0, 1, (1, 1)),
}

UNSOUND = (8, ("a",), (TELL_A,) * 40 + (("tell", "none"),))

# With what would be refused as well, if it were looked at first.
WITH_MORE = {
    "names_at": lambda program: names_at(program, "no place"),
    "put_at": lambda program: put_at(program, "no place", ()),
    "run": lambda program: run(program, "no words"),
    "steps": lambda program: steps(program, "no words"),
    "narrowed": lambda program: narrowed(program, "no widths", "no words"),
    "is_idle": lambda program: is_idle(program, "no place"),
    "check_facts": lambda program: check_facts(program, "no paper"),
    "check_needs": lambda program: check_needs(program, "no paper", "no paper"),
    "paper_widths": lambda program: paper_widths(program, "no paper", "no paper"),
    "holds_truly": lambda program: holds_truly(program, "no widths"),
    "alone": lambda program: alone(program, "no place"),
    "plain_at": lambda program: plain_at(program, "no place"),
    "rewritten": lambda program: rewritten(program, "no rule", "no place"),
    "same_but_names": lambda program: same_but_names(program, UNSOUND),
    "told_apart": lambda program: told_apart(program, UNSOUND),
    "apart_by_widths": lambda program: apart_by_widths(program, "no widths"),
    "counting": lambda program: counting(program, "no place"),
    "turned": lambda program: turned(program, "no place", "no bits", "no words"),
}

ALL = list(ASKERS.items()) + list(WITH_MORE.items())

# The smallest program in which 1 is WIDE, a number, k and n, and so is 0, but for WIDE.
SMALL = (1, ("a",), (
    ("set", "b", ("number", 0)), ("set", "b", ("number", 1)), ("set", "b", ("up", "a", 0)),
    ("set", "b", ("up", "a", 1)), ("set", "b", ("down", "a", 0)), ("set", "b", ("down", "a", 1)),
    ("round", 0, (TELL_A,)), ("round", 1, (TELL_A,)), ("if", "a", (("round", 1, ()),), ()),
))


def truths_for_numbers(program):
    """The program with True or False for one of its ones and noughts, for each of these."""
    return [with_part(program, path, bool(part_at(program, path))) for path in all_paths(program)
            if type(part_at(program, path)) is int and part_at(program, path) in (0, 1)]


class RefusedTest(unittest.TestCase):
    def bad_program(self, thing):
        self.assertIs(is_program(thing), False)
        for asked in [asker for _, asker in ALL] + [first_wrong]:
            with self.assertRaises(BadProgram):
                asked(thing)

    def unsound(self, program, place, what):
        self.assertEqual(first_wrong(program), (place, what))
        for name, asked in ALL:
            with self.assertRaises(Unsound, msg=name) as held:
                asked(program)
            self.assertEqual((held.exception.place, held.exception.what), (place, what))


class NoPrograms(RefusedTest):
    def test_of_any_kind(self):
        for thing in ODD + [(), (8, ()), (8, (), (), ()), list(SAMPLE), as_lists(SAMPLE), (0, (), ()),
                            (13, (), ()), (8, ["a"], ()), (8, (), [])]:
            self.bad_program(thing)

    def test_a_part_of_another_kind(self):
        for path in all_paths(SAMPLE):
            self.bad_program(with_part(SAMPLE, path, as_lists(part_at(SAMPLE, path))
                                       if isinstance(part_at(SAMPLE, path), tuple) else None))

    def test_wrong_by_its_form_and_its_names(self):
        self.bad_program((8, ("a", "a"), (("tell", "z"), ("tell", 1))))


class Truths(RefusedTest):
    def test_they_are_no_numbers(self):
        for program in (SAMPLE, SMALL):
            self.assertIsNone(first_wrong(program))
            for other in truths_for_numbers(program):
                self.assertEqual(other, program)
                self.bad_program(other)
        self.assertEqual(len(truths_for_numbers(SMALL)), 10)

    def test_right_after_the_good_program_was_asked_for(self):
        for program in [SMALL] + [Maker(seed).program() for seed in range(60)]:
            for other in truths_for_numbers(program):
                for _, asked in ALL:
                    for _ in range(2):
                        self.ask(asked, program)
                        with self.assertRaises(BadProgram):
                            asked(other)

    def ask(self, asked, program):
        try:
            asked(program)
        except BitError as error:
            self.assertNotIsInstance(error, BadProgram)


class UnsoundPrograms(RefusedTest):
    def test_inputs_alike(self):
        self.unsound((8, ("a", "a"), (TELL_A, ("tell", "z"))), -1, "name")

    def test_names_that_are_not_there(self):
        self.unsound((8, ("a",), (TELL_A, ("tell", "z"), ("tell", "y"))), 1, "name")
        self.unsound((8, ("a",), (("round", 0, (("tell", "z"),)),)), 1, "name")
        self.unsound((8, ("a",), (SET_A, ("if", "a", (), (("tell", "z"),)))), 2, "name")

    def test_too_many_steps(self):
        rows = one_in_another(["round"], rows_of_many(30))
        self.unsound((8, (), (("round", 12, (("round", 12, rows),)),)), -1, "long")
        rows = rows_of_many(2)
        for many in range(3):
            rows = (("round", 12, rows),)
        self.unsound((8, (), rows), -1, "long")

    def test_names_are_looked_at_ahead_of_steps(self):
        rows = (("round", 12, (("round", 12, (("round", 12, rows_of_many(2) + (
            ("tell", "z"),)),)),)),)
        self.unsound((8, (), rows), 5, "name")


if __name__ == "__main__":
    unittest.main()
