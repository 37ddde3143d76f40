import itertools
import random
import unittest

from bitneed.bits import (common_facts, expr_facts, first_facts, greatest_word, is_facts,
                          least_word, ways_of)
from bitneed.errors import BadFacts
from tests.kit import ALL_EXPRS, ODD, all_facts, facts_of_words, words_with, worth_of

TWO_NAMED = ("add", "less", "and", "or", "unlike", "same", "below")


def facts_by_going(wide, expr, facts):
    """An oracle: what is the same in all that comes, each name's place by itself."""
    choices = [words_with(wide, facts[part]) if isinstance(part, str) else [part]
               for part in expr[1:]]
    return facts_of_words(wide, [worth_of(wide, expr[0], parts)
                                 for parts in itertools.product(*choices)])


def facts_with_few_open(wide, chance, most_open):
    """FACTS by chance in which at most so many bits aren't known."""
    word = chance.randrange(2 ** wide)
    unknown = 0
    for _ in range(chance.randrange(most_open + 1)):
        unknown |= 1 << chance.randrange(wide)
    return ((2 ** wide - 1) & ~word & ~unknown, word & ~unknown)


class IsFacts(unittest.TestCase):
    def test_of_all_pairs(self):
        for wide in (1, 2, 3):
            for zeros, ones in itertools.product(range(-1, 2 ** wide + 2), repeat=2):
                right = 0 <= zeros < 2 ** wide and 0 <= ones < 2 ** wide and not zeros & ones
                self.assertIs(is_facts(wide, (zeros, ones)), right)

    def test_of_twelve_bits(self):
        for facts in ((0, 0), (4095, 0), (0, 4095), (4094, 1), (2048, 2047), (0b101, 0b1010)):
            self.assertIs(is_facts(12, facts), True)
        for facts in ((4095, 1), (2048, 2048), (4096, 0), (0, 4096), (-1, 0), (0, -1)):
            self.assertIs(is_facts(12, facts), False)

    def test_truths_are_no_numbers(self):
        for facts in ((True, False), (1, False), (True, 0), (0, True), (False, 0), (0, False)):
            self.assertIs(is_facts(4, facts), False)

    def test_other_kinds(self):
        for thing in ODD + [(), (0,), (0, 0, 0), [0, 0], "00", ((0, 0),), {0: 0}, 0]:
            self.assertIs(is_facts(4, thing), False)
            self.assertIs(is_facts(4, (thing, 8)), type(thing) is int and thing == 0)
            self.assertIs(is_facts(4, (8, thing)), type(thing) is int and thing == 0)


class Words(unittest.TestCase):
    WIDES = (1, 2, 3, 4)

    def all_cases(self):
        return [(wide, facts, words_with(wide, facts))
                for wide in self.WIDES for facts in all_facts(wide)]

    def test_least_and_greatest(self):
        for wide, facts, words in self.all_cases():
            self.assertEqual(least_word(facts), min(words))
            self.assertEqual(greatest_word(wide, facts), max(words))

    def test_least_and_greatest_of_twelve_bits(self):
        for facts, least, greatest in (((0, 0), 0, 4095), ((4095, 0), 0, 0), ((0, 4095), 4095, 4095),
                                       ((4094, 1), 1, 1), ((1, 2048), 2048, 4094)):
            self.assertEqual(least_word(facts), least)
            self.assertEqual(greatest_word(12, facts), greatest)

    def test_common(self):
        for wide in (1, 2, 3):
            for one, other in itertools.product(all_facts(wide), repeat=2):
                words = words_with(wide, one) + words_with(wide, other)
                self.assertEqual(common_facts(one, other), facts_of_words(wide, words))
        self.assertEqual(common_facts((4095, 0), (0, 4095)), (0, 0))
        self.assertEqual(common_facts((0b1100, 0b0011), (0b0100, 0b0010)), (0b0100, 0b0010))
        self.assertEqual(common_facts((0, 0), (4095, 0)), (0, 0))

    def test_ways(self):
        for wide, facts, words in self.all_cases():
            told = ways_of(wide, facts)
            self.assertEqual(told, (any(words), 0 in words))
            self.assertEqual([type(way) for way in told], [bool, bool])
            self.assertIs(type(told), tuple)

    def test_ways_of_twelve_bits(self):
        for facts, ways in (((0, 0), (True, True)), ((4095, 0), (False, True)),
                            ((0, 4095), (True, False)), ((4094, 0), (True, True)),
                            ((4094, 1), (True, False)), ((2047, 0), (True, True))):
            self.assertEqual(ways_of(12, facts), ways)

    def test_first_facts(self):
        for wide, facts, words in self.all_cases():
            if any(words):
                self.assertEqual(first_facts(wide, facts),
                                 facts_of_words(wide, [word for word in words if word != 0]))

    def test_first_facts_of_one_and_of_twelve_bits(self):
        self.assertEqual(first_facts(1, (0, 0)), (0, 1))
        self.assertEqual(first_facts(1, (0, 1)), (0, 1))
        for bit in range(12):
            self.assertEqual(first_facts(12, (4095 - 2 ** bit, 0)), (4095 - 2 ** bit, 2 ** bit))
        for facts in ((0, 0), (4095 - 3, 0), (4095 - 3, 1), (0, 4095), (2047, 2048)):
            self.assertEqual(first_facts(12, facts), facts)


class ExprFacts(unittest.TestCase):
    def told(self, wide, expr, facts):
        told = expr_facts(wide, expr, facts)
        self.assertEqual(told, facts_by_going(wide, expr, facts), (wide, expr, facts))
        self.assertIs(is_facts(wide, told), True)

    def test_numbers(self):
        for wide in (1, 2, 3, 4, 12):
            for n in range(2 ** wide):
                self.assertEqual(expr_facts(wide, ("number", n), {}), (2 ** wide - 1 - n, n))

    def test_one_name(self):
        for wide in (1, 2, 3, 4):
            for facts in all_facts(wide):
                self.told(wide, ("copy", "y"), {"y": facts})
                for k in range(12):
                    self.told(wide, ("up", "y", k), {"y": facts})
                    self.told(wide, ("down", "y", k), {"y": facts})

    def test_two_names(self):
        for wide in (1, 2, 3):
            for y, z in itertools.product(all_facts(wide), repeat=2):
                for kind in TWO_NAMED:
                    self.told(wide, (kind, "y", "z"), {"y": y, "z": z})

    def test_two_names_of_four_bits(self):
        cases = list(itertools.product(all_facts(4), repeat=2))
        for y, z in random.Random(4).sample(cases, 1500):
            for kind in TWO_NAMED:
                self.told(4, (kind, "y", "z"), {"y": y, "z": z})

    def test_one_name_twice_counts_as_two(self):
        for wide in (1, 2, 3, 4):
            for y in all_facts(wide):
                for kind in TWO_NAMED:
                    self.told(wide, (kind, "y", "y"), {"y": y})
                    self.assertEqual(expr_facts(wide, (kind, "y", "y"), {"y": y}),
                                     expr_facts(wide, (kind, "y", "z"), {"y": y, "z": y}))
        self.assertEqual(expr_facts(4, ("unlike", "y", "y"), {"y": (0, 0)}), (0, 0))
        self.assertEqual(expr_facts(4, ("same", "y", "y"), {"y": (0, 0)}), (14, 0))
        self.assertEqual(expr_facts(4, ("less", "y", "y"), {"y": (0, 0)}), (0, 0))

    def test_pick(self):
        for wide in (1, 2):
            for c, y, z in itertools.product(all_facts(wide), repeat=3):
                self.told(wide, ("pick", "c", "y", "z"), {"c": c, "y": y, "z": z})
        chance = random.Random(5)
        for _ in range(600):
            wide = chance.choice([3, 4])
            facts = {name: chance.choice(all_facts(wide)) for name in "cyz"}
            for names in (("c", "y", "z"), ("c", "c", "z"), ("c", "y", "c"), ("y", "y", "y")):
                self.told(wide, ("pick",) + names, facts)

    def test_twelve_bits_with_few_open(self):
        chance = random.Random(12)
        for _ in range(250):
            facts = {name: facts_with_few_open(12, chance, 3) for name in "cyz"}
            for expr in ALL_EXPRS:
                self.told(12, expr, facts)
            for k in range(12):
                self.told(12, ("up", "y", k), facts)
                self.told(12, ("down", "y", k), facts)

    def test_moved(self):
        for wide in range(1, 13):
            most = 2 ** wide - 1
            open_word = {"y": (0, 0)}
            self.assertEqual(expr_facts(wide, ("up", "y", 0), open_word), (0, 0))
            self.assertEqual(expr_facts(wide, ("down", "y", 0), open_word), (0, 0))
            self.assertEqual(expr_facts(wide, ("up", "y", wide - 1), open_word), (most >> 1, 0))
            self.assertEqual(expr_facts(wide, ("down", "y", wide - 1), open_word), (most - 1, 0))
            for k in {min(wide, 11), 11}:
                left = 2048 if wide == 12 else 0
                self.assertEqual(expr_facts(wide, ("up", "y", k), open_word), (most - left, 0))
                left = 1 if wide == 12 else 0
                self.assertEqual(expr_facts(wide, ("down", "y", k), open_word), (most - left, 0))

    def test_sums_of_twelve_bits_that_are_open_high_or_low(self):
        low_known = {"y": (0b1010, 0b0101), "z": (0b1100, 0b0011)}
        self.assertEqual(expr_facts(12, ("add", "y", "z"), low_known), (0b0111, 0b1000))
        high_known = {"y": (0xF00, 0), "z": (0xF00, 0)}
        self.assertEqual(expr_facts(12, ("add", "y", "z"), high_known), (0xE00, 0))
        self.assertEqual(expr_facts(12, ("less", "y", "z"), {"y": (0xF01, 0), "z": (0xFFE, 1)}),
                         (0, 1))

    def test_kinds_of_what_is_told(self):
        for expr in ALL_EXPRS:
            told = expr_facts(4, expr, {name: (1, 2) for name in "cyz"})
            self.assertIs(type(told), tuple)
            self.assertEqual([type(part) for part in told], [int, int])

    def test_names_that_are_words_of_programs(self):
        self.assertEqual(expr_facts(2, ("copy", "number"), {"number": (1, 2)}), (1, 2))
        self.assertEqual(expr_facts(2, ("and", "add", "and"), {"add": (1, 2), "and": (0, 3)}),
                         (1, 2))


class Refused(unittest.TestCase):
    WRONG = [thing for thing in ODD if not isinstance(thing, dict)] + [
        (0,), (0, 0, 0), [0, 0], (1, 1), (16, 0), (0, 16), (-1, 0), (0, -1), (True, 0), (0, True),
        (False, 0), ((0, 0), (0, 0)), (0, None), {"y": (0, 0)}]

    def refused(self, expr, facts):
        with self.assertRaises(BadFacts):
            expr_facts(4, expr, facts)

    def test_no_dict(self):
        for thing in ODD + [(("y", (0, 0)),), [("y", (0, 0))]]:
            if not isinstance(thing, dict):
                for expr in ALL_EXPRS:
                    self.refused(expr, thing)

    def test_a_name_that_is_not_in_it(self):
        for expr in ALL_EXPRS:
            names = {part for part in expr[1:] if isinstance(part, str)}
            whole = {name: (0, 0) for name in names}
            self.assertIs(type(expr_facts(4, expr, whole)), tuple)
            for name in names:
                self.refused(expr, {other: (0, 0) for other in names - {name}})

    def test_no_facts_of_a_name(self):
        for expr in ALL_EXPRS:
            for name in {part for part in expr[1:] if isinstance(part, str)}:
                for thing in self.WRONG:
                    facts = {"c": (0, 0), "y": (0, 0), "z": (0, 0)}
                    facts[name] = thing
                    self.refused(expr, facts)

    def test_also_where_it_would_not_count(self):
        # A c that is known leaves one of the two unread, but both names stand there.
        for c in ((15, 0), (0, 15)):
            self.refused(("pick", "c", "y", "z"), {"c": c, "y": (0, 0), "z": (16, 0)})
            self.refused(("pick", "c", "y", "z"), {"c": c, "y": (1, 1), "z": (0, 0)})
            self.refused(("pick", "c", "y", "z"), {"c": c, "z": (0, 0)})
        self.refused(("up", "y", 11), {"y": (16, 0)})

    def test_other_names_may_have_anything(self):
        for thing in self.WRONG:
            facts = {"y": (1, 2), "x": thing, "z": (2, 1), "c": (0, 0), 5: thing, "X": thing}
            for expr in ALL_EXPRS:
                self.assertEqual(expr_facts(4, expr, facts), facts_by_going(4, expr, facts))

    def test_what_is_handed_in_stays(self):
        for expr in ALL_EXPRS:
            facts = {"y": (1, 2), "z": (2, 1), "c": (0, 0), "x": [1]}
            expr_facts(4, expr, facts)
            self.assertEqual(facts, {"y": (1, 2), "z": (2, 1), "c": (0, 0), "x": [1]})
            self.refused(("copy", "x"), facts)
            self.assertEqual(facts, {"y": (1, 2), "z": (2, 1), "c": (0, 0), "x": [1]})

    def test_the_dict_changed_later_changes_nothing(self):
        facts = {"y": (1, 2)}
        told = expr_facts(4, ("copy", "y"), facts)
        facts["y"] = (0, 0)
        self.assertEqual(told, (1, 2))
        self.assertEqual(expr_facts(4, ("copy", "y"), facts), (0, 0))


if __name__ == "__main__":
    unittest.main()
