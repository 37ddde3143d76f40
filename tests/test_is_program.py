import unittest

from bitneed.errors import BadProgram
from bitneed.forms import (first_wrong, is_program, names_at, need_program, places_of, put_at,
                           set_places)
from tests.kit import (ODD, SAMPLE, SET_A, TELL_A, Maker, all_paths, as_lists, one_in_another,
                       part_at, rows_of_many, with_part)

REFUSING = [need_program, first_wrong, places_of, set_places,
            lambda thing: names_at(thing, 0), lambda thing: put_at(thing, 0, ())]

TWO_NAMES = ["add", "less", "and", "or", "unlike", "same", "below"]


def of_row(row):
    return (8, ("a",), (row,))


def of_expr(expr):
    return of_row(("set", "x", expr))


class FormTest(unittest.TestCase):
    def right(self, thing):
        self.assertIs(is_program(thing), True)

    def wrong(self, thing):
        self.assertIs(is_program(thing), False)
        for refusing in REFUSING:
            with self.assertRaises(BadProgram):
                refusing(thing)


class Bounds(FormTest):
    def test_wide(self):
        for wide in range(1, 13):
            self.right((wide, (), ()))
        for wide in (-1, 0, 13, 14, 10 ** 30, True, False, None, "8", (8,), b"8"):
            self.wrong((wide, (), ()))

    def test_inputs(self):
        for many in range(5):
            self.right((8, tuple("abcd"[:many]), ()))
        self.wrong((8, tuple("abcde"), ()))
        self.wrong((8, ("a",) * 5, ()))
        self.right((8, ("a",) * 4, ()))
        self.right((8, ("abcdefgh", "set"), ()))

    def test_inputs_that_are_no_names(self):
        for thing in ODD:
            self.wrong((8, (thing,), ()))
            self.wrong((8, ("a", "b", "c", thing), ()))
        for thing in ("ab", ["a"], {"a": 1}, {"a"}, None, 0, "", [], {}):
            self.wrong((8, thing, ()))

    def test_rows_in_all(self):
        self.right((8, ("a",), ()))
        self.right((8, ("a",), rows_of_many(60)))
        self.wrong((8, ("a",), rows_of_many(61)))

    def test_rows_within_others_count(self):
        for at in range(3):
            ways = [rows_of_many(19), rows_of_many(19), rows_of_many(20)]
            rows = (("if", "a", ways[0], ways[1]), ("round", 2, ways[2]))
            self.right((8, ("a",), rows))
            ways[at] += (SET_A,)
            rows = (("if", "a", ways[0], ways[1]), ("round", 2, ways[2]))
            self.wrong((8, ("a",), rows))

    def test_rows_deep_within_others_count(self):
        kinds = ["if", "round", "if", "round", "if"]
        self.right((8, ("a",), one_in_another(kinds, rows_of_many(55))))
        self.wrong((8, ("a",), one_in_another(kinds, rows_of_many(56))))
        self.right((8, ("a",), one_in_another(kinds, rows_of_many(54)) + (SET_A,)))
        self.wrong((8, ("a",), one_in_another(kinds, rows_of_many(55)) + (SET_A,)))

    def test_how_many_are_within_one_another(self):
        for kinds in (["if"] * 5, ["round"] * 3 + ["if"] * 2, ["if", "round"] * 2 + ["if"]):
            self.right((8, ("a",), one_in_another(kinds, (TELL_A,))))
            for row in (TELL_A, ("if", "a", (), ()), SET_A):
                self.right((8, ("a",), one_in_another(kinds, (row,))))
            self.right((8, ("a",), one_in_another(kinds + ["if"], ())))
            self.wrong((8, ("a",), one_in_another(kinds + ["if"], (TELL_A,))))
            self.wrong((8, ("a",), one_in_another(kinds + ["if"] * 2, ())))

    def test_the_second_way_is_within_too(self):
        rows = one_in_another(["if"] * 4, (("if", "a", (), (TELL_A,)),))
        self.right((8, ("a",), rows))
        rows = one_in_another(["if"] * 5, (("if", "a", (), (TELL_A,)),))
        self.wrong((8, ("a",), rows))

    def test_depth_is_counted_anew_beside(self):
        deep = one_in_another(["if"] * 5, (TELL_A,))
        self.right((8, ("a",), deep * 9))

    def test_rounds_within_one_another(self):
        self.right((8, ("a",), one_in_another(["round"] * 3, ())))
        self.right((8, ("a",), one_in_another(["round"] * 3, (TELL_A,))))
        self.wrong((8, ("a",), one_in_another(["round"] * 4, ())))
        self.right((8, ("a",), one_in_another(["round", "if"] * 3, ())))
        self.wrong((8, ("a",), one_in_another(["if", "round", "round", "if", "round", "round"], ())))
        self.wrong((8, ("a",), one_in_another(["round", "if", "round", "round", "round"], ())))

    def test_rounds_beside_one_another_do_not_count(self):
        rounds = one_in_another(["round"] * 3, ())
        self.right((8, ("a",), rounds * 20))
        rows = one_in_another(["round"] * 2, (("round", 0, ()),) * 50)
        self.right((8, ("a",), rows))

    def test_rounds_of_0_count_within_one_another(self):
        rows = (("round", 0, one_in_another(["round"] * 2, (("round", 0, ()),))),)
        self.wrong((8, ("a",), rows))

    def test_goings_of_a_round(self):
        for n in range(13):
            self.right(of_row(("round", n, ())))
        for n in (-1, 13, 10 ** 30, True, False, None, "1", (1,)):
            self.wrong(of_row(("round", n, ())))

    def test_shifts(self):
        for kind in ("up", "down"):
            for wide in (1, 12):
                for k in range(12):
                    self.right((wide, (), (("set", "x", (kind, "a", k)),)))
                for k in (-1, 12, 10 ** 30, True, False, None, "1", "a"):
                    self.wrong((wide, (), (("set", "x", (kind, "a", k)),)))

    def test_numbers(self):
        for wide in range(1, 13):
            for n in (0, 1, 2 ** wide - 1):
                self.right((wide, (), (("set", "x", ("number", n)),)))
            for n in (-1, 2 ** wide, 2 ** wide + 1, True, False, None, "1", "a"):
                self.wrong((wide, (), (("set", "x", ("number", n)),)))

    def test_names_of_each_length(self):
        for name in ("a", "abcdefgh"):
            self.right(of_row(("set", name, ("copy", name))))
        for name in ("", "abcdefghi", "A", "a1"):
            self.wrong(of_row(("tell", name)))


class Parts(FormTest):
    def test_what_is_right(self):
        self.right(SAMPLE)
        self.right((1, (), ()))
        self.right((8, (), (("if", "a", (), ()), ("round", 0, ()))))

    def test_whichever_names_are_there(self):
        self.right((8, (), (("tell", "z"), ("if", "y", (("set", "x", ("add", "w", "v")),), ()))))
        self.right((8, ("a", "a"), ()))

    def test_however_many_steps(self):
        self.right((8, ("a",), (("round", 12, (("round", 12, (("round", 12, rows_of_many(57)),)),)),)))

    def test_names_may_be_words_of_the_language(self):
        self.right((8, ("set", "if", "round", "tell"), (
            ("set", "number", ("copy", "set")), ("if", "if", (("tell", "tell"),), ()),
            ("set", "pick", ("pick", "pick", "add", "copy")), ("tell", "round"))))

    def test_each_expr(self):
        self.right(of_expr(("number", 5)))
        self.right(of_expr(("copy", "a")))
        for kind in TWO_NAMES:
            self.right(of_expr((kind, "a", "b")))
            self.right(of_expr((kind, "a", "a")))
            self.wrong(of_expr((kind, "a")))
            self.wrong(of_expr((kind, "a", "b", "c")))
            self.wrong(of_expr((kind, "a", 1)))
            self.wrong(of_expr((kind, 1, "a")))
        self.right(of_expr(("pick", "a", "b", "c")))
        self.right(of_expr(("pick", "a", "a", "a")))
        self.wrong(of_expr(("pick", "a", "b")))
        self.wrong(of_expr(("pick", "a", "b", 3)))
        for kind in ("up", "down"):
            self.right(of_expr((kind, "a", 3)))
            self.wrong(of_expr((kind, "a", "b")))
            self.wrong(of_expr((kind, 3, "a")))
            self.wrong(of_expr((kind, 3, 3)))

    def test_no_such_expr(self):
        for kind in ("", "sub", "xor", "not", "Copy", "word", "set", "copy ", "name", "shift"):
            for parts in ((), ("a",), (1,), ("a", "b"), ("a", 1), ("a", "b", "c")):
                self.wrong(of_expr((kind,) + parts))

    def test_no_such_row(self):
        for kind in ("", "put", "Set", "else", "end", "tell ", "number", "wide", "in"):
            for parts in ((), ("a",), ("a", ("copy", "a")), ("a", (), ()), (1, ())):
                self.wrong(of_row((kind,) + parts))

    def test_rows_that_lack_their_parts(self):
        for row in ((), ("set",), ("set", "a"), ("tell",), ("if",), ("if", "a"), ("if", "a", ()),
                    ("round",), ("round", 1), ("round", ()), ("tell", ()), ("set", ("copy", "a"))):
            self.wrong(of_row(row))
        self.wrong(of_expr(()))

    def test_rows_with_parts_of_others(self):
        for row in (("tell", "a", ()), ("tell", 1), ("set", "a", "b"), ("set", "a", ()),
                    ("set", 1, ("copy", "a")), ("if", 1, (), ()), ("if", "a", 1, ()),
                    ("if", "a", (), 1), ("if", "a", (), (), ()), ("round", "a", ()),
                    ("round", 1, (), ()), ("round", 1, 1), ("round", 1, "a")):
            self.wrong(of_row(row))

    def test_odd_things_at_every_place(self):
        for path in all_paths(SAMPLE):
            for odd in ODD:
                self.assertIs(is_program(with_part(SAMPLE, path, odd)), False, (path, odd.__class__))

    def test_odd_things_are_refused(self):
        for odd in ODD:
            self.wrong(odd)
            self.wrong(of_row(odd))
            self.wrong(of_expr(odd))
            self.wrong((8, ("a",), odd))

    def test_a_part_more(self):
        for path in all_paths(SAMPLE):
            part = part_at(SAMPLE, path)
            if isinstance(part, tuple):
                for more in (None, "a", 0, ()):
                    if path != (1,) or more != "a":
                        self.wrong(with_part(SAMPLE, path, part + (more,)))

    def test_a_part_less(self):
        for path in all_paths(SAMPLE):
            part = part_at(SAMPLE, path)
            # INPUTS and ROWS may have less: they are told by their parts.
            if isinstance(part, tuple) and part and path != (1,) and not isinstance(part[0], tuple):
                self.wrong(with_part(SAMPLE, path, part[:-1]))
                self.wrong(with_part(SAMPLE, path, part[1:]))

    def test_lists_for_tuples(self):
        self.wrong(as_lists(SAMPLE))
        for path in all_paths(SAMPLE):
            part = part_at(SAMPLE, path)
            if isinstance(part, tuple):
                self.wrong(with_part(SAMPLE, path, list(part)))

    def test_truths_for_numbers(self):
        seen = 0
        for path in all_paths(SAMPLE):
            part = part_at(SAMPLE, path)
            if part in (0, 1):
                seen += 1
                self.wrong(with_part(SAMPLE, path, bool(part)))
        self.assertEqual(seen, 5)

    def test_programs_made_by_chance(self):
        for seed in range(300):
            self.right(Maker(seed).program())


class Anything(FormTest):
    def test_very_deep_things(self):
        for kind in ("if", "round"):
            self.wrong((8, ("a",), one_in_another([kind] * 50000, ())))
        thing = ()
        for _ in range(50000):
            thing = (thing,)
        self.wrong(thing)
        self.wrong((8, ("a",), thing))
        self.wrong(of_expr(thing))

    def test_the_same_rows_many_times_over(self):
        rows = (TELL_A,)
        for _ in range(6):
            rows = (("if", "a", rows, rows),) * 60
        self.wrong((8, ("a",), rows))
        rows = ()
        for _ in range(5):
            rows = (("if", "a", rows, rows),) * 2
        self.wrong((8, ("a",), rows))

    def test_very_long_things(self):
        self.wrong((8, ("a",) * 10 ** 6, ()))
        self.wrong((8, ("a",), (TELL_A,) * 10 ** 6))
        self.wrong((8,) * 10 ** 6)


if __name__ == "__main__":
    unittest.main()
