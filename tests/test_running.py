import random
import unittest

from bitneed.errors import BadInput, BadProgram, BadWidths, Unsound
from bitneed.forms import set_places
from bitneed.running import narrowed, run, steps
from tests.kit import (ODD, SAMPLE, Walk, all_words, one_in_another, sound_programs, worth_of)

TWO_NAMED = ("add", "less", "and", "or", "unlike", "same", "below")


def one_expr(wide, inputs, expr):
    return (wide, inputs, (("set", "x", expr), ("tell", "x")))


class Worths(unittest.TestCase):
    def test_two_names(self):
        for wide in (1, 2, 3):
            for kind in TWO_NAMED:
                program = one_expr(wide, ("y", "z"), (kind, "y", "z"))
                for words in all_words(program):
                    self.assertEqual(run(program, words)[0], (worth_of(wide, kind, words),))

    def test_one_name_twice(self):
        for kind in TWO_NAMED:
            program = one_expr(3, ("y",), (kind, "y", "y"))
            for word in range(8):
                self.assertEqual(run(program, (word,))[0], (worth_of(3, kind, (word, word)),))

    def test_one_name(self):
        for wide in (1, 2, 4):
            for word in range(2 ** wide):
                self.assertEqual(run(one_expr(wide, ("y",), ("copy", "y")), (word,)), ((word,), ()))
                for k in range(12):
                    for kind in ("up", "down"):
                        program = one_expr(wide, ("y",), (kind, "y", k))
                        self.assertEqual(run(program, (word,))[0], (worth_of(wide, kind, (word, k)),))

    def test_pick(self):
        program = one_expr(2, ("c", "y", "z"), ("pick", "c", "y", "z"))
        for words in all_words(program):
            self.assertEqual(run(program, words), ((words[1] if words[0] else words[2],), ()))

    def test_numbers(self):
        for n in (0, 1, 4095):
            self.assertEqual(run(one_expr(12, (), ("number", n)), ()), ((n,), ()))


class Lost(unittest.TestCase):
    def told(self, wide, kind, parts, told, lost):
        names = tuple("yz"[:1 if kind in ("up", "down") else 2])
        expr = (kind,) + (names if len(names) == 2 else (names[0], parts[1]))
        words = tuple(parts[:len(names)])
        self.assertEqual(run(one_expr(wide, names, expr), words), ((told,), (0,) if lost else ()))

    def test_sums_at_their_edges(self):
        for wide in (1, 2, 8, 12):
            most = 2 ** wide - 1
            self.told(wide, "add", (most, 0), most, False)
            self.told(wide, "add", (most, 1), 0, True)
            self.told(wide, "add", (most, most), most - 1, True)
            self.told(wide, "add", (most // 2, most // 2 + 1), most, False)

    def test_differences_at_their_edges(self):
        for wide in (1, 2, 8, 12):
            most = 2 ** wide - 1
            self.told(wide, "less", (most, most), 0, False)
            self.told(wide, "less", (0, 1), most, True)
            self.told(wide, "less", (0, most), 1, True)
            self.told(wide, "less", (most - 1, most), most, True)

    def test_up(self):
        self.told(4, "up", (3, 2), 12, False)
        self.told(4, "up", (5, 2), 4, True)
        self.told(4, "up", (8, 1), 0, True)
        self.told(4, "up", (15, 0), 15, False)
        self.told(12, "up", (1, 11), 2048, False)
        self.told(12, "up", (3, 11), 2048, True)

    def test_up_by_more_than_wide(self):
        for k in (2, 3, 11):
            self.told(2, "up", (1, k), 0, True)
            self.told(2, "up", (0, k), 0, False)
        self.told(1, "up", (1, 11), 0, True)

    def test_other_rows_lose_nothing(self):
        for kind in ("and", "or", "unlike", "same", "below"):
            program = one_expr(3, ("y", "z"), (kind, "y", "z"))
            for words in all_words(program):
                self.assertEqual(run(program, words)[1], ())
        for k in range(12):
            self.told(3, "down", (7, k), 7 >> k, False)

    def test_they_rise_and_each_stands_once(self):
        up = ("set", "a", ("add", "a", "a"))
        rows = (("round", 3, (up, ("round", 2, (up,)))), up, ("tell", "a"), up)
        self.assertEqual(run((4, ("a",), rows), (1,)), ((0,), (1,)))
        self.assertEqual(run((4, ("a",), rows), (3,)), ((0,), (1, 3)))
        self.assertEqual(run((12, ("a",), rows), (1,)), ((1024,), ()))
        self.assertEqual(run((12, ("a",), rows), (3,)), ((3072,), (6,)))
        self.assertEqual(run((10, ("a",), rows), (3,)), ((0,), (3, 4)))

    def test_a_row_that_loses_in_one_going_alone(self):
        rows = (("round", 12, (("set", "a", ("less", "a", "b")), ("set", "b", ("number", 0)),
                               ("tell", "a"))),)
        self.assertEqual(run((4, ("a", "b"), rows), (1, 2)), ((15,) * 12, (1,)))
        rows = (("round", 3, (("tell", "a"), ("set", "a", ("up", "a", 1)))),)
        self.assertEqual(run((3, ("a",), rows), (2,)), ((2, 4, 0), (2,)))

    def test_a_row_that_is_not_gone_through_loses_nothing(self):
        lose = ("set", "a", ("less", "b", "a"))
        rows = (("if", "a", (("round", 0, (lose,)),), (lose,)), ("tell", "a"))
        self.assertEqual(run((4, ("a", "b"), rows), (1, 0)), ((1,), ()))


class Goings(unittest.TestCase):
    def test_no_rows(self):
        self.assertEqual(run((4, (), ()), ()), ((), ()))
        self.assertEqual(steps((4, (), ()), ()), ())
        self.assertEqual(narrowed((4, (), ()), (), ()), ())

    def test_words_in_the_order_of_inputs(self):
        rows = tuple(("tell", name) for name in "abcd")
        self.assertEqual(run((4, ("d", "a", "c", "b"), rows), (1, 2, 3, 4)), ((2, 4, 3, 1), ()))

    def test_ifs(self):
        program = (4, ("a",), (("if", "a", (("tell", "a"),), (("set", "a", ("number", 9)),)),
                               ("tell", "a")))
        self.assertEqual(run(program, (0,)), ((9,), ()))
        for word in range(1, 16):
            self.assertEqual(run(program, (word,)), ((word, word), ()))

    def test_rounds(self):
        for n in range(13):
            rows = (("round", n, (("tell", "a"), ("set", "a", ("unlike", "a", "b")))),)
            self.assertEqual(run((2, ("a", "b"), rows), (1, 3))[0], ((1, 2) * 6)[:n])

    def test_steps(self):
        rows = (("if", "a", (("tell", "a"),), ()),
                ("round", 2, (("set", "a", ("up", "a", 1)), ("if", "a", (), (("tell", "a"),)))),
                ("tell", "a"))
        self.assertEqual(steps((2, ("a",), rows), (1,)),
                         ((0, 1), (1, 1), (3, 2), (4, 2), (3, 0), (4, 0), (5, 0), (6, 0)))
        self.assertEqual(steps((2, ("a",), rows), (0,)),
                         ((0, 0), (3, 0), (4, 0), (5, 0), (3, 0), (4, 0), (5, 0), (6, 0)))
        rows = (("round", 0, (("tell", "a"),)), ("round", 3, ()), ("round", 1, (("tell", "a"),)))
        self.assertEqual(steps((2, ("a",), rows), (3,)), ((4, 3),))

    def test_steps_of_second_ways_have_places_behind_the_first_ones(self):
        rows = (("if", "a", (("tell", "a"),) * 3, (("round", 1, (("tell", "a"),)),)), ("tell", "a"))
        self.assertEqual(steps((2, ("a",), rows), (0,)), ((0, 0), (5, 0), (6, 0)))

    def test_kinds_of_what_is_told(self):
        told = run(SAMPLE, (1, 2))
        self.assertEqual([type(part) for part in (told,) + told], [tuple] * 3)
        for step in steps(SAMPLE, (1, 2)):
            self.assertEqual([type(step)] + [type(part) for part in step], [tuple, int, int])
        self.assertIs(type(narrowed(SAMPLE, (8,) * 12, (1, 2))), tuple)

    def test_of_programs_made_by_chance(self):
        for program in sound_programs(600):
            for words in all_words(program):
                walk = Walk(program, words)
                self.assertEqual(run(program, words), (tuple(walk.tellings), tuple(sorted(walk.lost))))
                self.assertEqual(steps(program, words), walk.steps())


class Narrowed(unittest.TestCase):
    PROGRAM = (4, ("a",), (("set", "b", ("copy", "a")), ("tell", "b"),
                           ("set", "c", ("add", "b", "a")), ("tell", "c")))

    def test_each_set_row_is_cut(self):
        for widths, told in (((4, 4), (13, 10)), ((3, 4), (5, 2)), ((0, 4), (0, 13)),
                             ((4, 3), (13, 2)), ((4, 0), (13, 0)), ((2, 1), (1, 0)),
                             ((0, 0), (0, 0)), ((0, 3), (0, 5))):
            self.assertEqual(narrowed(self.PROGRAM, widths, (13,)), told)

    def test_inputs_are_not_cut(self):
        self.assertEqual(narrowed((4, ("a",), (("tell", "a"),)), (), (15,)), (15,))

    def test_ways_go_by_the_words_that_are_left(self):
        rows = (("set", "b", ("copy", "a")), ("if", "b", (("tell", "a"),), (("tell", "b"),)))
        self.assertEqual(narrowed((4, ("a",), rows), (2,), (12,)), (0,))
        self.assertEqual(narrowed((4, ("a",), rows), (3,), (12,)), (12,))

    def test_each_time_that_a_row_is_gone_through(self):
        rows = (("round", 5, (("set", "a", ("add", "a", "a")), ("tell", "a"))),)
        self.assertEqual(narrowed((8, ("a",), rows), (4,), (3,)), (6, 12, 8, 0, 0))

    def test_wide_for_all_is_the_run(self):
        for program in sound_programs(200) + [SAMPLE]:
            many = len(set_places(program))
            for words in all_words(program)[:64]:
                self.assertEqual(narrowed(program, (program[0],) * many, words),
                                 run(program, words)[0])

    def test_of_programs_made_by_chance(self):
        chance = random.Random(6)
        for program in sound_programs(400):
            places = set_places(program)
            for words in all_words(program)[:20]:
                widths = tuple(chance.randrange(program[0] + 1) for _ in places)
                left = dict(zip(places, widths))
                walk = Walk(program, words, lambda place, word: word % 2 ** left[place])
                self.assertEqual(narrowed(program, widths, words), tuple(walk.tellings))


class Refused(unittest.TestCase):
    PROGRAM = (4, ("a", "b"), (("set", "c", ("add", "a", "b")), ("set", "d", ("number", 1)),
                               ("tell", "c")))
    WRONG_PARTS = [True, False, -1, 16, 10 ** 30, None, "1", "", (), (1,), [1], b"1", {}, object()]
    ASKED = [run, steps, lambda program, words: narrowed(program, (4, 4), words)]

    def test_words(self):
        for asked in self.ASKED:
            self.assertIs(type(asked(self.PROGRAM, (15, 0))), tuple)
            for part in self.WRONG_PARTS:
                for words in ((part, 1), (1, part), (part, part)):
                    with self.assertRaises(BadInput):
                        asked(self.PROGRAM, words)

    def test_what_is_no_tuple_of_so_many_words(self):
        for asked in self.ASKED:
            for thing in ODD + [(), (1,), (1, 2, 3), [1, 2], {1: 2, 3: 4}, "12", range(2), 12,
                                ((1, 2),)]:
                with self.assertRaises(BadInput):
                    asked(self.PROGRAM, thing)

    def test_no_words_for_no_inputs(self):
        program = (4, (), (("set", "c", ("number", 1)),))
        self.assertEqual(run(program, ()), ((), ()))
        for thing in ODD + [[], "", (0,), {}, None]:
            for asked in (run, steps, lambda program, words: narrowed(program, (1,), words)):
                with self.assertRaises(BadInput):
                    asked(program, thing)

    def test_words_that_fit_a_wider_program(self):
        for wide in range(1, 13):
            program = (wide, ("a",), (("tell", "a"),))
            self.assertEqual(run(program, (2 ** wide - 1,))[0], (2 ** wide - 1,))
            with self.assertRaises(BadInput):
                run(program, (2 ** wide,))

    def test_widths(self):
        for part in self.WRONG_PARTS + [5, 12]:
            for widths in ((part, 4), (4, part)):
                with self.assertRaises(BadWidths):
                    narrowed(self.PROGRAM, widths, (1, 2))

    def test_what_is_no_tuple_of_so_many_widths(self):
        for thing in ODD + [(), (4,), (4, 4, 4), [4, 4], {4: 4, 3: 3}, "44", range(2), 4,
                            ((4, 4),)]:
            with self.assertRaises(BadWidths):
                narrowed(self.PROGRAM, thing, (1, 2))

    def test_widths_are_refused_ahead_of_words(self):
        for thing in ODD:
            with self.assertRaises(BadWidths):
                narrowed(self.PROGRAM, thing, thing)
        with self.assertRaises(BadInput):
            narrowed(self.PROGRAM, (4, 0), [])

    def test_programs_are_refused_ahead_of_all_else(self):
        unsound = (4, ("a",), (("tell", "z"),))
        for asked in self.ASKED + [lambda program, thing: narrowed(program, thing, thing)]:
            for thing in ODD + [(1,)]:
                with self.assertRaises(BadProgram):
                    asked((4, ("a",), (("tell", 1),)), thing)
                with self.assertRaises(Unsound) as held:
                    asked(unsound, thing)
                self.assertEqual((held.exception.place, held.exception.what), (0, "name"))

    def test_too_many_steps_are_not_run(self):
        rows = one_in_another(["round"], (("tell", "a"),) * 30)
        many = (4, ("a",), (("round", 12, (("round", 12, rows),)),))
        for asked in self.ASKED:
            with self.assertRaises(Unsound) as held:
                asked(many, (1,))
            self.assertEqual((held.exception.place, held.exception.what), (-1, "long"))


if __name__ == "__main__":
    unittest.main()
