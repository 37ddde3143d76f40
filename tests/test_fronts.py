import functools
import itertools
import unittest

from bitneed.errors import BadProgram, Unsound
from bitneed.fronts import facts_ahead
from bitneed.forms import names_at, places_of
from tests.kit import (SAMPLE, Walk, all_words, copy, facts_of_words, number, size_of,
                       sound_programs, words_with, worth_of)


@functools.lru_cache(maxsize=None)
def made_by_going(wide, kind, parts):
    """The FACTS of what an EXPR comes to, by going through all words; parts are FACTS or numbers."""
    choices = [words_with(wide, part) if isinstance(part, tuple) else [part] for part in parts]
    return facts_of_words(wide, [worth_of(wide, kind, words)
                                 for words in itertools.product(*choices)])


class Flow:
    """An oracle: the facts as they flow from point to point, until nothing flows any more.

    A point that nothing flows to isn't come to. Each link is where from, where to, how, and the
    names that are there. Of what flows to a place bits may be left, by (PLACE, NAME).
    """

    def __init__(self, program, left=None):
        self.wide = program[0]
        self.left = left or {}
        self.links = []
        begin = {name: (0, 0) for name in program[1]}
        self.facts = {"begin": begin}
        self.link(program[2], 0, "begin", frozenset(begin))
        changed = True
        while changed:
            changed = any([self.flow(*one) for one in self.links])

    def flow(self, here, there, how, names):
        told = how(self.facts[here]) if here in self.facts else None
        if told is None:
            return False
        told = {name: told[name] for name in names}
        if there in self.facts:
            known = self.facts[there]
            told = {name: tuple(a & b for a, b in zip(told[name], known[name])) for name in names}
        changed = told != self.facts.get(there)
        self.facts[there] = told
        return changed

    def link(self, rows, place, point, names):
        for row in rows:
            self.links.append((point, ("ahead", place), functools.partial(self.taken, place), names))
            names = self.link_row(row, place, names)
            point = ("behind", place)
            place += size_of(row)
        return point, names

    def link_row(self, row, place, names):
        here, behind = ("ahead", place), ("behind", place)
        if row[0] == "set":
            there = names | {row[1]}
            self.links.append((here, behind, lambda facts: self.set(row, facts), there))
            return there
        if row[0] == "if":
            return self.link_if(row, place, names)
        if row[0] == "round":
            begin = ("rows", place)
            end, there = self.link(row[2], place + 1, begin, names)
            if row[1]:
                self.links.append((here, begin, dict, names))
                self.links.append((end, begin, dict, names))
                self.links.append((end, behind, dict, there))
                return there
        self.links.append((here, behind, dict, names))
        return names

    def link_if(self, row, place, names):
        here, behind = ("ahead", place), ("behind", place)
        self.links.append((here, ("first", place), lambda facts: self.way(row, facts, True), names))
        self.links.append((here, ("second", place), lambda facts: self.way(row, facts, False), names))
        one, first = self.link(row[2], place + 1, ("first", place), names)
        second_place = place + 1 + sum(map(size_of, row[2]))
        other, second = self.link(row[3], second_place, ("second", place), names)
        self.links.append((one, behind, dict, first & second))
        self.links.append((other, behind, dict, first & second))
        return first & second

    def taken(self, place, facts):
        return {name: tuple(bits & ~self.left.get((place, name), 0) for bits in facts[name])
                for name in facts}

    def set(self, row, facts):
        parts = tuple(facts[part] if isinstance(part, str) else part for part in row[2][1:])
        return {**facts, row[1]: made_by_going(self.wide, row[2][0], parts)}

    def way(self, row, facts, is_first):
        words = [word for word in words_with(self.wide, facts[row[1]]) if bool(word) == is_first]
        if not words:
            return None
        return {**facts, row[1]: facts_of_words(self.wide, words)}

    def told(self, place):
        facts = self.facts.get(("ahead", place))
        if facts is None:
            return None
        return tuple((name, *facts[name]) for name in sorted(facts))


class FactsTest(unittest.TestCase):
    def told(self, program, *facts):
        """What is told, each place's facts as a text "NAME ZEROS ONES, .."; None where told so."""
        wanted = []
        for one in facts:
            parts = [part.split() for part in one.split(", ")] if one else []
            wanted.append(tuple((name, int(zeros), int(ones)) for name, zeros, ones in parts)
                          if one is not None else None)
        self.assertEqual(facts_ahead(program), tuple(wanted))


class Rows(FactsTest):
    def test_no_rows(self):
        self.told((4, ("a",), ()))

    def test_no_names(self):
        self.told((4, (), (number("a", 5), ("tell", "a"))), "", "a 10 5")

    def test_four_inputs_in_the_order_of_names(self):
        program = (12, ("d", "b", "aa", "a"), (("tell", "a"), number("c", 4095), ("tell", "c")))
        self.told(program, "a 0 0, aa 0 0, b 0 0, d 0 0", "a 0 0, aa 0 0, b 0 0, d 0 0",
                  "a 0 0, aa 0 0, b 0 0, c 0 4095, d 0 0")

    def test_words_of_one_bit(self):
        program = (1, ("a",), (number("b", 1), ("set", "b", ("unlike", "b", "b")),
                               ("set", "a", ("and", "a", "b")), ("tell", "a")))
        self.told(program, "a 0 0", "a 0 0, b 0 1", "a 0 0, b 1 0", "a 1 0, b 1 0")

    def test_each_row_is_told_ahead_of_itself(self):
        program = (4, ("a",), (("set", "a", ("up", "a", 1)), ("set", "a", ("up", "a", 1)),
                               ("set", "b", ("down", "a", 3)), ("tell", "b")))
        self.told(program, "a 0 0", "a 1 0", "a 3 0", "a 3 0, b 14 0")

    def test_one_name_twice_counts_as_two(self):
        program = (4, ("a",), (("set", "b", ("less", "a", "a")), ("tell", "b")))
        self.told(program, "a 0 0", "a 0 0, b 0 0")

    def test_kinds_of_what_is_told(self):
        told = facts_ahead(SAMPLE)
        self.assertIs(type(told), tuple)
        self.assertEqual(len(told), 19)
        for facts in told:
            self.assertIn(type(facts), (tuple, type(None)))
            for one in facts or ():
                self.assertEqual([type(part) for part in one], [str, int, int])


class Ifs(FactsTest):
    def test_one_bit_is_left(self):
        program = (4, ("a",), (("set", "b", ("and", "a", "a")), number("c", 4),
                               ("set", "b", ("and", "a", "c")),
                               ("if", "b", (("tell", "b"),), (("tell", "b"),)), ("tell", "b")))
        self.told(program, "a 0 0", "a 0 0, b 0 0", "a 0 0, b 0 0, c 11 4",
                  "a 0 0, b 11 0, c 11 4", "a 0 0, b 11 4, c 11 4", "a 0 0, b 15 0, c 11 4",
                  "a 0 0, b 11 0, c 11 4")

    def test_more_bits_are_left(self):
        program = (2, ("a",), (("if", "a", (("tell", "a"),), (("tell", "a"),)), ("tell", "a")))
        self.told(program, "a 0 0", "a 0 0", "a 3 0", "a 0 0")

    def test_words_of_one_bit(self):
        program = (1, ("a",), (("if", "a", (("tell", "a"),), (("tell", "a"),)),))
        self.told(program, "a 0 0", "a 0 1", "a 1 0")

    def test_the_first_way_alone(self):
        inner = (("if", "a", (number("c", 1),), ()), ("round", 2, (("tell", "b"),)))
        program = (2, ("a",), (number("b", 2), ("if", "b", (number("a", 0),), inner), ("tell", "a")))
        self.told(program, "a 0 0", "a 0 0, b 1 2", "a 0 0, b 1 2", None, None, None, None,
                  "a 3 0, b 1 2")

    def test_the_second_way_alone(self):
        inner = (("if", "a", (number("c", 1),), ()), ("round", 2, (("tell", "b"),)))
        program = (2, ("a",), (number("b", 0), ("if", "b", inner, (number("a", 1),)), ("tell", "a")))
        self.told(program, "a 0 0", "a 0 0, b 3 0", None, None, None, None, "a 0 0, b 3 0",
                  "a 2 1, b 3 0")

    def test_a_one_is_enough_for_the_first_way_alone(self):
        program = (2, ("a",), (number("b", 1), ("set", "b", ("or", "a", "b")),
                               ("if", "b", (("tell", "b"),), (("tell", "b"),))))
        self.told(program, "a 0 0", "a 0 0, b 2 1", "a 0 0, b 0 1", "a 0 0, b 0 1", None)

    def test_what_both_ends_have_in_common(self):
        program = (4, ("a",), (("if", "a", (number("b", 12),), (number("b", 10),)), ("tell", "b")))
        self.told(program, "a 0 0", "a 0 0", "a 15 0", "a 0 0, b 1 8")

    def test_the_names_that_are_there_behind_it(self):
        # One way alone is come to and sets c, but the other one doesn't.
        rows = (number("b", 1), ("if", "b", (number("c", 3), number("d", 2)), (number("d", 1),)),
                ("tell", "d"))
        self.told((2, (), rows), "", "b 2 1", "b 2 1", "b 2 1, c 0 3", None, "b 2 1, d 1 2")
        rows = (number("b", 0), ("if", "b", (number("d", 1),), (number("c", 3), number("d", 2))),
                ("tell", "d"))
        self.told((2, (), rows), "", "b 3 0", None, "b 3 0", "b 3 0, c 0 3", "b 3 0, d 1 2")

    def test_the_names_of_a_way_that_is_not_come_to_are_looked_for_within_it(self):
        first = (number("c", 3), number("d", 2), number("e", 1), number("f", 0))
        second = (("if", "b", (number("c", 1), number("d", 1)), (number("d", 2),)),
                  ("round", 2, (number("e", 1),)), ("round", 1, (number("f", 1),)),
                  ("round", 0, (number("c", 0),)))
        rows = (number("b", 1), ("if", "b", first, second), ("tell", "d"))
        self.assertEqual(facts_ahead((2, (), rows))[-1],
                         (("b", 2, 1), ("d", 1, 2), ("e", 2, 1), ("f", 3, 0)))

    def test_ways_without_rows(self):
        program = (2, ("a",), (("if", "a", (), ()), ("tell", "a")))
        self.told(program, "a 0 0", "a 0 0")
        program = (1, ("a",), (("if", "a", (), (number("a", 1),)), ("tell", "a")))
        self.told(program, "a 0 0", "a 1 0", "a 0 1")


class Rounds(FactsTest):
    def test_of_none(self):
        rows = (("round", 0, (number("b", 1), ("if", "a", (("tell", "a"),), ()))), ("tell", "a"))
        self.told((2, ("a",), rows), "a 0 0", None, None, None, "a 0 0")

    def test_the_facts_at_the_end_come_back_to_the_beginning(self):
        # Of a round of 1, too: how often it is gone through is not looked at.
        for n in (1, 2, 12):
            rows = (number("a", 0), ("round", n, (number("a", 1),)), ("tell", "a"))
            self.told((2, (), rows), "", "a 3 0", "a 2 0", "a 2 1")

    def test_behind_it_stand_those_at_its_end(self):
        for n in (1, 12):
            rows = (number("a", 0), ("round", n, (("tell", "a"), number("a", 3), number("b", 1))),
                    ("tell", "a"))
            self.told((2, (), rows), "", "a 3 0", "a 0 0", "a 0 0", "a 0 3", "a 0 3, b 2 1")

    def test_without_rows(self):
        self.told((2, (), (number("a", 1), ("round", 3, ()), ("tell", "a"))),
                  "", "a 2 1", "a 2 1")

    def test_bits_taken_away_once(self):
        rows = (number("a", 4), ("round", 2, (("set", "a", ("down", "a", 2)),)), ("tell", "a"))
        self.told((3, (), rows), "", "a 3 4", "a 2 0", "a 6 0")

    def test_bits_taken_away_again_and_again(self):
        rows = (number("a", 1), number("b", 0), number("c", 0), number("d", 0),
                ("round", 1, (copy("d", "c"), copy("c", "b"), copy("b", "a"))), ("tell", "d"))
        self.told((1, (), rows), "", "a 0 1", "a 0 1, b 1 0", "a 0 1, b 1 0, c 1 0",
                  "a 0 1, b 1 0, c 1 0, d 1 0", "a 0 1, b 0 0, c 0 0, d 0 0",
                  "a 0 1, b 0 0, c 0 0, d 0 0", "a 0 1, b 0 0, c 0 0, d 0 0",
                  "a 0 1, b 0 1, c 0 0, d 0 0")
        rows = (number("a", 0), number("one", 1),
                ("round", 12, (("set", "a", ("add", "a", "one")),)), ("tell", "a"))
        self.told((12, (), rows), "", "a 4095 0", "a 4095 0, one 4094 1", "a 0 0, one 4094 1",
                  "a 0 0, one 4094 1")

    def test_a_way_that_is_come_to_only_when_gone_through_again(self):
        rows = (number("a", 0), number("b", 0),
                ("round", 2, (("if", "a", (number("b", 1),), ()), number("a", 1))), ("tell", "b"))
        self.told((2, (), rows), "", "a 3 0", "a 3 0, b 3 0", "a 2 0, b 2 0", "a 2 1, b 2 0",
                  "a 2 0, b 2 0", "a 2 1, b 2 0")

    def test_rounds_within_one_another(self):
        inner = ("round", 1, (copy("c", "b"), copy("b", "a")))
        rows = (number("a", 0), number("b", 0), number("c", 0),
                ("round", 1, (inner, ("set", "a", ("or", "a", "one")))), ("tell", "c"))
        program = (2, ("one",), (("set", "one", ("and", "one", "one")),) + rows)
        told = facts_ahead(program)
        open_names = (("a", 0, 0), ("b", 0, 0), ("c", 0, 0), ("one", 0, 0))
        self.assertEqual(told[4], (("a", 3, 0), ("b", 3, 0), ("c", 3, 0), ("one", 0, 0)))
        self.assertEqual(told[5:], (open_names,) * 5)

    def test_the_inner_round_begins_with_less_each_time(self):
        inner = ("round", 2, (("set", "b", ("up", "a", 1)),))
        rows = (number("a", 0), number("b", 0), number("one", 1),
                ("round", 2, (inner, ("set", "a", ("or", "b", "one")))), ("tell", "b"))
        told = facts_ahead((4, (), rows))
        self.assertEqual(told[4:], (
            (("a", 0, 0), ("b", 1, 0), ("one", 14, 1)),) * 3 + (
            (("a", 0, 1), ("b", 1, 0), ("one", 14, 1)),))

    def test_a_round_within_a_round_of_none(self):
        rows = (("round", 0, (("round", 2, (("tell", "a"),)),)), ("tell", "a"))
        self.told((2, ("a",), rows), "a 0 0", None, None, "a 0 0")


class ByChance(unittest.TestCase):
    PROGRAMS = sound_programs(700)

    def test_just_what_flows_there_is_known(self):
        for program in self.PROGRAMS:
            flow = Flow(program)
            wanted = tuple(flow.told(place) for place in range(len(places_of(program))))
            self.assertEqual(facts_ahead(program), wanted, program)

    def test_the_names_are_those_that_are_there(self):
        for program in self.PROGRAMS:
            for place, facts in enumerate(facts_ahead(program)):
                if facts is not None:
                    self.assertEqual([name for name, _, _ in facts], names_at(program, place))

    def test_each_word_of_each_run_has_them(self):
        for program in self.PROGRAMS:
            told = facts_ahead(program)
            for words in all_words(program):
                for place, _, ahead in Walk(program, words).arrivals:
                    self.assertIsNotNone(told[place])
                    for name, zeros, ones in told[place]:
                        self.assertEqual((ahead[name] & zeros, ahead[name] & ones), (0, ones))


class Refused(unittest.TestCase):
    def test_no_program(self):
        with self.assertRaises(BadProgram):
            facts_ahead((4, ("a",), (("tell", 1),)))

    def test_a_wrong_place(self):
        with self.assertRaises(Unsound) as held:
            facts_ahead((4, ("a",), (("tell", "a"), ("tell", "b"))))
        self.assertEqual((held.exception.place, held.exception.what), (1, "name"))


if __name__ == "__main__":
    unittest.main()
