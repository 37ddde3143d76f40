"""What is promised over the whole program: each way to tell a program otherwise tells the same."""

import random
import unittest

from bitneed.desk import Desk
from bitneed.forms import first_wrong, need_program, places_of, set_places
from bitneed.needs import needs_of
from bitneed.papers import check_facts, check_needs, facts_paper, needs_paper, paper_widths
from bitneed.plain import made_plain
from bitneed.reading import program_in
from bitneed.rules import rewritten, same_but_names
from bitneed.running import narrowed, run
from bitneed.showing import program_text
from bitneed.truly import holds_truly, together
from bitneed.trying import apart_by_widths, put_in, told_apart
from bitneed.widths import widths
from tests.kit import Walk, sound_programs

RULES = ["names", "more", "twin", "one", "turn", "choose", "into"]


def told_otherwise(program, chance):
    """The program by some rules, one behind another."""
    for _ in range(chance.choice([1, 2, 5])):
        if places_of(program):
            place = chance.randrange(len(places_of(program)))
            program = rewritten(program, chance.choice(RULES), place) or program
    return program


def read_back(program, chance):
    return program_in(program_text(program).replace(" ", " " * chance.choice([1, 3])))


def by_a_desk(program, chance):
    desk = Desk(program_text(program))
    for line in ("plain", "rule more 0", "back", "rule into 0", "rule choose 1", "rule turn 2"):
        desk.said(line)
    return program_in(desk.said("program").replace(" ; ", "\n"))


WAYS = [lambda program, chance: made_plain(program), told_otherwise, read_back, by_a_desk]


class Whole(unittest.TestCase):
    PROGRAMS = sound_programs(350, 6)

    def test_each_behind_another_the_same_is_told(self):
        chance = random.Random(100)
        for program in self.PROGRAMS:
            words = put_in(program)
            wanted = [tuple(Walk(program, some).tellings) for some in words]
            told = program
            for _ in range(5):
                told = chance.choice(WAYS)(told, chance)
                self.assertIsNone(first_wrong(told))
                self.assertIsNone(told_apart(program, told))
                self.assertIsNone(apart_by_widths(told, widths(told)))
            self.assertEqual([run(told, some)[0] for some in words], wanted)
            self.assertEqual([narrowed(told, widths(told), some) for some in words], wanted)
            self.assertEqual([narrowed(told, together(told), some) for some in words], wanted)

    def test_read_back_it_is_the_same(self):
        chance = random.Random(101)
        for program in self.PROGRAMS:
            for told in (program, made_plain(program), told_otherwise(program, chance)):
                self.assertEqual(read_back(told, chance), told)

    def test_what_is_told_holds_of_each_of_them(self):
        chance = random.Random(102)
        for program in self.PROGRAMS[:150]:
            told = told_otherwise(made_plain(program), chance)
            facts, needed = facts_paper(told), needs_paper(told)
            self.assertIsNone(check_facts(told, facts))
            self.assertIsNone(check_needs(told, facts, needed))
            self.assertEqual(paper_widths(told, facts, needed), widths(told))
            self.assertIs(holds_truly(told, widths(told)), True)
            self.assertEqual(len(widths(told)), len(set_places(told)))
            self.assertEqual([name for name, _ in needs_of(told)], list(told[1]))

    def test_names_do_not_matter(self):
        for program in self.PROGRAMS:
            if not places_of(program):
                continue
            other = rewritten(program, "names", 0)
            self.assertIs(same_but_names(program, other), True)
            self.assertEqual(widths(other), widths(program))
            self.assertEqual(together(other), together(program))
            self.assertIs(same_but_names(made_plain(other), made_plain(program)), True)
            self.assertEqual([bits for _, bits in needs_of(other)], [bits for _, bits in needs_of(program)])

    def test_made_plain_again_and_again_nothing_is_left_to_be_made(self):
        for program in self.PROGRAMS:
            told = program
            for _ in range(20):
                self.assertIsNone(need_program(told))
                told = made_plain(told)
            self.assertEqual(made_plain(told), told)


if __name__ == "__main__":
    unittest.main()
