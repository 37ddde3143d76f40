import itertools
import unittest

from bitneed.errors import BadProgram, Unsound
from bitneed.forms import places_of
from bitneed.fronts import facts_ahead
from bitneed.losing import loses, lossless
from tests.kit import SAMPLE, TELL_A, Walk, all_words, sound_programs, words_with


def told_of_last(wide, inputs, rows):
    """What is told of the last set row."""
    return [told for told in loses((wide, inputs, rows)) if told != "none"][-1]


def lost_by_words(wide, expr, facts):
    """An oracle: by going through all words with the facts of each name by itself."""
    kind, *parts = expr
    choices = [words_with(wide, facts[part]) if isinstance(part, str) else [part] for part in parts]
    lost = set()
    for one, other in itertools.product(*choices):
        whole = {"add": one + other, "less": one - other, "up": one << other}[kind]
        lost.add(not 0 <= whole < 2 ** wide)
    return "perhaps" if len(lost) == 2 else ("always" if lost == {True} else "never")


class Sums(unittest.TestCase):
    def told(self, wide, y, z, told):
        rows = (("set", "y", ("number", y)), ("set", "z", ("number", z)), ("set", "x", ("add", "y", "z")))
        self.assertEqual(loses((wide, (), rows)), ("never", "never", told))

    def test_at_their_edges(self):
        for wide in (1, 2, 8, 12):
            most = 2 ** wide - 1
            self.told(wide, most, 0, "never")
            self.told(wide, most, 1, "always")
            self.told(wide, most // 2, most - most // 2, "never")
            self.told(wide, most // 2 + 1, most - most // 2, "always")

    def test_of_words_that_are_open(self):
        rows = (("set", "x", ("add", "a", "b")),)
        self.assertEqual(loses((4, ("a", "b"), rows)), ("perhaps",))
        low = ("set", "a", ("down", "a", 1))
        self.assertEqual(told_of_last(4, ("a", "b"), (low, ("set", "b", ("down", "b", 1))) + rows),
                         "never")
        self.assertEqual(told_of_last(4, ("a", "b"), (low,) + rows), "perhaps")
        high = (("set", "c", ("number", 8)), ("set", "a", ("or", "a", "c")))
        self.assertEqual(told_of_last(4, ("a", "b"), high + rows), "perhaps")
        self.assertEqual(told_of_last(4, ("a", "b"), high + (("set", "b", ("or", "b", "c")),) + rows),
                         "always")

    def test_a_name_and_itself(self):
        self.assertEqual(loses((4, ("a",), (("set", "x", ("add", "a", "a")),))), ("perhaps",))


class Differences(unittest.TestCase):
    def told(self, wide, y, z, told):
        rows = (("set", "y", ("number", y)), ("set", "z", ("number", z)), ("set", "x", ("less", "y", "z")))
        self.assertEqual(loses((wide, (), rows)), ("never", "never", told))

    def test_at_their_edges(self):
        for wide in (1, 2, 8, 12):
            most = 2 ** wide - 1
            self.told(wide, most, most, "never")
            self.told(wide, most, 0, "never")
            self.told(wide, 0, 0, "never")
            self.told(wide, most - 1, most, "always")
            self.told(wide, 0, 1, "always")

    def test_of_words_that_are_open(self):
        rows = (("set", "x", ("less", "a", "b")),)
        self.assertEqual(loses((4, ("a", "b"), rows)), ("perhaps",))
        zero, most = (("set", "c", ("number", n)) for n in (0, 15))
        self.assertEqual(told_of_last(4, ("a",), (zero, ("set", "x", ("less", "a", "c")))), "never")
        self.assertEqual(told_of_last(4, ("a",), (zero, ("set", "x", ("less", "c", "a")))), "perhaps")
        self.assertEqual(told_of_last(4, ("a",), (most, ("set", "x", ("less", "c", "a")))), "never")
        self.assertEqual(told_of_last(4, ("a",), (most, ("set", "x", ("less", "a", "c")))), "perhaps")
        low = ("set", "a", ("down", "a", 1))
        eight, seven = (("set", "c", ("number", n)) for n in (8, 7))
        self.assertEqual(told_of_last(4, ("a",), (low, eight, ("set", "x", ("less", "a", "c")))), "always")
        self.assertEqual(told_of_last(4, ("a",), (low, seven, ("set", "x", ("less", "c", "a")))), "never")
        self.assertEqual(told_of_last(4, ("a",), (low, seven, ("set", "x", ("less", "a", "c")))), "perhaps")

    def test_a_name_and_itself_counts_as_two(self):
        self.assertEqual(loses((4, ("a",), (("set", "x", ("less", "a", "a")),))), ("perhaps",))


class Ups(unittest.TestCase):
    def told(self, wide, word, k, told):
        rows = (("set", "y", ("number", word)), ("set", "x", ("up", "y", k)))
        self.assertEqual(loses((wide, (), rows)), ("never", told))

    def test_of_words_that_are_known(self):
        self.told(4, 3, 2, "never")
        self.told(4, 4, 2, "always")
        self.told(4, 12, 2, "always")
        self.told(4, 15, 0, "never")
        self.told(4, 1, 4, "always")
        self.told(4, 0, 4, "never")
        self.told(12, 1, 11, "never")
        self.told(12, 2, 11, "always")

    def test_by_more_than_wide(self):
        for wide in (1, 2, 5):
            for k in range(wide, 12):
                self.told(wide, 0, k, "never")
                self.told(wide, 1, k, "always")
                self.assertEqual(loses((wide, ("a",), (("set", "x", ("up", "a", k)),))), ("perhaps",))

    def test_of_words_that_are_open(self):
        for k in range(12):
            told = loses((4, ("a",), (("set", "x", ("up", "a", k)),)))
            self.assertEqual(told, ("perhaps" if k else "never",))
            low = ("set", "a", ("down", "a", 2))
            self.assertEqual(told_of_last(4, ("a",), (low, ("set", "x", ("up", "a", k)))),
                             "never" if k <= 2 else "perhaps")
            high = (("set", "c", ("number", 4)), ("set", "a", ("or", "a", "c")))
            self.assertEqual(told_of_last(4, ("a",), high + (("set", "x", ("up", "a", k)),)),
                             ["never", "perhaps"][k] if k < 2 else "always")


class OtherRows(unittest.TestCase):
    def test_other_set_rows_lose_never(self):
        for expr in (("number", 15), ("copy", "a"), ("and", "a", "a"), ("or", "a", "a"),
                     ("unlike", "a", "a"), ("same", "a", "a"), ("below", "a", "a"),
                     ("down", "a", 11), ("pick", "a", "a", "a")):
            program = (4, ("a",), (("set", "x", expr),))
            self.assertEqual(loses(program), ("never",))
            self.assertIs(lossless(program), True)

    def test_no_set_rows(self):
        rows = (TELL_A, ("if", "a", (TELL_A,), ()), ("round", 2, (TELL_A,)))
        self.assertEqual(loses((4, ("a",), rows)), ("none",) * 5)
        self.assertIs(lossless((4, ("a",), rows)), True)
        self.assertEqual(loses((4, (), ())), ())
        self.assertIs(lossless((4, (), ())), True)

    def test_places_that_are_not_come_to(self):
        lose = ("set", "x", ("add", "a", "a"))
        rows = (("set", "b", ("number", 1)), ("if", "b", (), (lose, ("round", 1, (lose,)))),
                ("round", 0, (lose,)), ("set", "b", ("number", 0)), ("if", "b", (lose,), ()))
        program = (4, ("a",), rows)
        self.assertEqual(loses(program), ("never",) + ("none",) * 6 + ("never",) + ("none",) * 2)
        self.assertIs(lossless(program), True)

    def test_lossless(self):
        lose = ("set", "x", ("add", "a", "a"))
        self.assertIs(lossless((4, ("a",), (lose,))), False)
        self.assertIs(lossless((4, (), (("set", "a", ("number", 9)), lose))), False)
        self.assertIs(lossless((4, (), (("set", "a", ("number", 7)), lose))), True)
        self.assertIs(lossless((4, ("a",), (("round", 2, (TELL_A, lose)), TELL_A))), False)

    def test_by_the_facts_within_rounds(self):
        rows = (("set", "a", ("number", 1)), ("round", 2, (("set", "a", ("up", "a", 1)),)))
        self.assertEqual(loses((4, (), rows)), ("never", "none", "perhaps"))

    def test_kinds_of_what_is_told(self):
        told = loses(SAMPLE)
        self.assertIs(type(told), tuple)
        self.assertEqual(len(told), 19)
        self.assertEqual({type(one) for one in told}, {str})


class ByChance(unittest.TestCase):
    PROGRAMS = sound_programs(600)

    def test_by_words_with_the_facts(self):
        for program in self.PROGRAMS:
            for row, facts, told in zip(places_of(program), facts_ahead(program), loses(program)):
                if facts is None or row[0] != "set":
                    self.assertEqual(told, "none")
                elif row[2][0] in ("add", "less", "up"):
                    facts = {name: (zeros, ones) for name, zeros, ones in facts}
                    self.assertEqual(told, lost_by_words(program[0], row[2], facts))
                else:
                    self.assertEqual(told, "never")

    def test_runs(self):
        for program in self.PROGRAMS:
            told = loses(program)
            for words in all_words(program):
                walk = Walk(program, words)
                for place in {place for place, _, _ in walk.arrivals}:
                    self.assertFalse(told[place] in ("never", "none") and place in walk.lost)
                    self.assertFalse(told[place] == "always" and place not in walk.lost)

    def test_lossless(self):
        for program in self.PROGRAMS:
            self.assertIs(lossless(program), not {"always", "perhaps"} & set(loses(program)))


class Refused(unittest.TestCase):
    def test_as_need_program(self):
        for asked in (loses, lossless):
            with self.assertRaises(BadProgram):
                asked((4, ("a",), (("tell", 1),)))
            with self.assertRaises(Unsound) as held:
                asked((4, ("a", "a"), (TELL_A,)))
            self.assertEqual((held.exception.place, held.exception.what), (-1, "name"))


if __name__ == "__main__":
    unittest.main()
