import unittest

from bitneed.errors import BadPlace, BadProgram, Unsound
from bitneed.forms import (first_wrong, is_program, names_at, need_program, places_of, put_at,
                           set_places, uses)
from tests.kit import (NOT_PLACES, ODD, SAMPLE, SAMPLE_NAMES, SAMPLE_PATHS, SET_A, TELL_A, Maker,
                       one_in_another, part_at, rows_of_many, with_part)

EMPTY = (8, ("a",), ())

UNSOUND = [
    ((8, ("a", "a"), (TELL_A,)), (-1, "name")),
    ((8, ("a",), (TELL_A, ("tell", "z"))), (1, "name")),
    ((8, ("a",), (("round", 12, (("round", 12, rows_of_many(20)),)),)), (-1, "long")),
]


def sound_programs():
    made = [Maker(seed).program() for seed in range(1500)]
    return [program for program in made if first_wrong(program) is None]


def paths_of(rows, path=()):
    """The paths of all rows, in the order of places."""
    paths = []
    for at, row in enumerate(rows):
        paths.append(path + (at,))
        for part in range(2, len(row)):
            if row[0] in ("if", "round"):
                paths.extend(paths_of(row[part], path + (at, part)))
    return paths


def put_by_path(program, path, other):
    """The program with other rows put in by slices."""
    around = part_at(program[2], path[:-1])
    at = path[-1]
    rows = with_part(program[2], path[:-1], around[:at] + other + around[at + 1:])
    return (program[0], program[1], rows)


class Uses(unittest.TestCase):
    def test_set_rows(self):
        for expr, names in (
            (("number", 3), []), (("copy", "y"), ["y"]), (("up", "y", 3), ["y"]),
            (("down", "y", 0), ["y"]), (("pick", "c", "y", "z"), ["c", "y", "z"]),
            (("pick", "z", "y", "c"), ["z", "y", "c"]), (("pick", "c", "c", "c"), ["c", "c", "c"]),
            (("pick", "c", "y", "c"), ["c", "y", "c"]),
        ):
            self.assertEqual(uses(("set", "x", expr)), names)
        for kind in ("add", "less", "and", "or", "unlike", "same", "below"):
            self.assertEqual(uses(("set", "x", (kind, "z", "y"))), ["z", "y"])
            self.assertEqual(uses(("set", "x", (kind, "y", "z"))), ["y", "z"])
            self.assertEqual(uses(("set", "x", (kind, "y", "y"))), ["y", "y"])
            self.assertEqual(uses(("set", "x", (kind, "x", "y"))), ["x", "y"])

    def test_other_rows(self):
        self.assertEqual(uses(("tell", "y")), ["y"])
        self.assertEqual(uses(("if", "y", (), ())), ["y"])
        self.assertEqual(uses(("round", 3, ())), [])

    def test_not_those_of_the_rows_within(self):
        self.assertEqual(uses(("if", "y", (("tell", "b"),), (("tell", "c"),))), ["y"])
        self.assertEqual(uses(("round", 3, (("tell", "b"),))), [])

    def test_names_that_are_words_of_the_language(self):
        self.assertEqual(uses(("set", "x", ("add", "number", "set"))), ["number", "set"])
        self.assertEqual(uses(("if", "round", (), ())), ["round"])


class Places(unittest.TestCase):
    def test_of_a_program_without_rows(self):
        self.assertEqual(places_of(EMPTY), [])
        self.assertEqual(set_places(EMPTY), [])

    def test_order(self):
        rows = [part_at(SAMPLE[2], path) for path in SAMPLE_PATHS]
        self.assertEqual(places_of(SAMPLE), rows)
        self.assertEqual(len(rows), 19)

    def test_the_first_rows_of_an_if_stand_ahead(self):
        one, two, three = (("set", "b", ("number", n)) for n in (1, 2, 3))
        way = ("if", "a", (one,), (two,))
        self.assertEqual(places_of((8, ("a",), (way, three))), [way, one, two, three])
        outer = ("if", "a", (way,), (three,))
        self.assertEqual(places_of((8, ("a",), (outer,))), [outer, way, one, two, three])
        outer = ("if", "a", (three,), (way,))
        self.assertEqual(places_of((8, ("a",), (outer,))), [outer, three, way, one, two])

    def test_rows_within_rounds(self):
        one, two = (("set", "b", ("number", n)) for n in (1, 2))
        inner = ("round", 2, (one,))
        outer = ("round", 0, (inner, two))
        self.assertEqual(places_of((8, (), (outer, one))), [outer, inner, one, two, one])

    def test_each_row_is_told_whole(self):
        deep = one_in_another(["if", "round", "if", "round", "if"], (TELL_A,))
        told = places_of((8, ("a",), deep))
        self.assertEqual(told[0], deep[0])
        self.assertEqual([row[0] for row in told], ["if", "round", "if", "round", "if", "tell"])

    def test_alike_rows_have_places_of_their_own(self):
        self.assertEqual(places_of((8, ("a",), rows_of_many(60))), [SET_A] * 60)

    def test_set_places(self):
        self.assertEqual(set_places(SAMPLE), [0, 1, 3, 5, 8, 9, 11, 12, 14, 15, 16, 17])
        self.assertEqual(set_places((8, ("a",), (TELL_A,))), [])
        self.assertEqual(set_places((8, ("a",), rows_of_many(60))), list(range(60)))

    def test_kinds_of_what_is_told(self):
        self.assertIs(type(places_of(SAMPLE)), list)
        self.assertIs(type(set_places(SAMPLE)), list)
        self.assertIs(type(names_at(SAMPLE, 0)), list)
        self.assertIs(type(uses(TELL_A)), list)

    def test_of_programs_made_by_chance(self):
        for program in sound_programs():
            rows = [part_at(program[2], path) for path in paths_of(program[2])]
            self.assertEqual(places_of(program), rows)
            self.assertEqual(set_places(program),
                             [place for place, row in enumerate(rows) if row[0] == "set"])


class NamesThere(unittest.TestCase):
    def test_at_each_place(self):
        for place, names in enumerate(SAMPLE_NAMES):
            self.assertEqual(names_at(SAMPLE, place), names.split(), place)

    def test_they_rise(self):
        rows = (("set", "aa", ("number", 1)), ("set", "a", ("number", 1)), ("tell", "b"))
        self.assertEqual(names_at((8, ("c", "b"), rows), 0), ["b", "c"])
        self.assertEqual(names_at((8, ("c", "b"), rows), 2), ["a", "aa", "b", "c"])

    def test_a_name_that_is_set_again_stands_once(self):
        rows = (SET_A, SET_A, ("round", 2, (SET_A, TELL_A)), TELL_A)
        for place in range(5):
            self.assertEqual(names_at((8, ("a",), rows), place), ["a"])

    def test_no_names(self):
        self.assertEqual(names_at((8, (), (SET_A,)), 0), [])

    def test_ahead_of_a_row_not_behind_it(self):
        self.assertEqual(names_at((8, (), (SET_A, TELL_A)), 0), [])
        self.assertEqual(names_at((8, (), (SET_A, TELL_A)), 1), ["a"])

    def test_behind_an_if_what_both_ways_set(self):
        b, c, d = (("set", name, ("number", 0)) for name in "bcd")
        rows = (("if", "a", (b, c), (d, c)), TELL_A)
        told = [names_at((8, ("a",), rows), place) for place in range(6)]
        self.assertEqual(told, [["a"], ["a"], ["a", "b"], ["a"], ["a", "d"], ["a", "c"]])

    def test_behind_rounds(self):
        for n, names in ((0, ["a"]), (1, ["a", "b"]), (12, ["a", "b"])):
            rows = (("round", n, (("set", "b", ("copy", "a")),)), TELL_A)
            self.assertEqual(names_at((8, ("a",), rows), 1), ["a"])
            self.assertEqual(names_at((8, ("a",), rows), 2), names)

    def test_of_programs_made_by_chance(self):
        # A name is there just where a row that tells it could stand.
        for program in sound_programs():
            for place in range(len(places_of(program))):
                there = names_at(program, place)
                for name in "abcd":
                    row = places_of(program)[place]
                    told = put_at(program, place, (("tell", name), row))
                    self.assertEqual(first_wrong(told), None if name in there else (place, "name"))


class PutIn(unittest.TestCase):
    def test_at_each_place(self):
        for other in ((), (TELL_A,), (SET_A, TELL_A), (("if", "a", (TELL_A,), ()), SET_A, TELL_A)):
            for place, path in enumerate(SAMPLE_PATHS):
                self.assertEqual(put_at(SAMPLE, place, other), put_by_path(SAMPLE, path, other))

    def test_small_programs(self):
        program = (8, ("a",), (SET_A, ("if", "a", (TELL_A,), (SET_A,)), ("round", 2, (TELL_A,))))
        new = ("tell", "z")
        self.assertEqual(put_at(program, 0, ()), (8, ("a",), program[2][1:]))
        self.assertEqual(put_at(program, 1, (new,)), (8, ("a",), (SET_A, new, program[2][2])))
        self.assertEqual(put_at(program, 2, (new, new)), (8, ("a",), (
            SET_A, ("if", "a", (new, new), (SET_A,)), ("round", 2, (TELL_A,)))))
        self.assertEqual(put_at(program, 3, ()), (8, ("a",), (
            SET_A, ("if", "a", (TELL_A,), ()), ("round", 2, (TELL_A,)))))
        self.assertEqual(put_at(program, 4, ()), (8, ("a",), program[2][:2]))
        self.assertEqual(put_at(program, 5, (new,)), (8, ("a",), program[2][:2] + (
            ("round", 2, (new,)),)))

    def test_the_row_itself_put_in_changes_nothing(self):
        for place, row in enumerate(places_of(SAMPLE)):
            self.assertEqual(put_at(SAMPLE, place, (row,)), SAMPLE)

    def test_alike_rows_are_told_apart(self):
        program = (8, ("a",), rows_of_many(5))
        for place in range(5):
            rows = (SET_A,) * place + (TELL_A,) + (SET_A,) * (4 - place)
            self.assertEqual(put_at(program, place, (TELL_A,)), (8, ("a",), rows))

    def test_six_deep(self):
        deep = one_in_another(["if", "round", "if", "round", "if"], (TELL_A,))
        for other in ((), (SET_A,), (SET_A, TELL_A)):
            told = one_in_another(["if", "round", "if", "round", "if"], other)
            self.assertEqual(put_at((8, ("a",), deep), 5, other), (8, ("a",), told))

    def test_what_comes_need_not_be_a_program(self):
        told = put_at((8, ("a",), rows_of_many(60)), 59, (SET_A, SET_A))
        self.assertEqual(told, (8, ("a",), rows_of_many(61)))
        self.assertIs(is_program(told), False)
        deep = one_in_another(["if"] * 5, (TELL_A,))
        told = put_at((8, ("a",), deep), 5, one_in_another(["if"], (TELL_A,)))
        self.assertEqual(told, (8, ("a",), one_in_another(["if"] * 6, (TELL_A,))))
        self.assertIs(is_program(told), False)

    def test_what_comes_need_not_be_sound(self):
        told = put_at((8, (), (SET_A, TELL_A)), 0, ())
        self.assertEqual(told, (8, (), (TELL_A,)))
        self.assertEqual(first_wrong(told), (0, "name"))

    def test_wide_and_inputs_stay(self):
        told = put_at((3, ("b", "a"), (SET_A,)), 0, ())
        self.assertEqual(told, (3, ("b", "a"), ()))

    def test_of_programs_made_by_chance(self):
        for program in sound_programs():
            for place, path in enumerate(paths_of(program[2])):
                for other in ((), (TELL_A,), (TELL_A, ("round", 2, (TELL_A, SET_A)))):
                    self.assertEqual(put_at(program, place, other),
                                     put_by_path(program, path, other))


class Refused(unittest.TestCase):
    ASKED = [places_of, set_places, need_program] + [
        asked for place in [0, 1, 99] + NOT_PLACES
        for asked in (lambda thing, place=place: names_at(thing, place),
                      lambda thing, place=place: put_at(thing, place, ()))]

    def test_no_programs(self):
        for thing in ODD + [(), (8, ()), list(SAMPLE), (8, ["a"], ()), (13, (), ())]:
            for asked in self.ASKED:
                with self.assertRaises(BadProgram):
                    asked(thing)

    def test_no_program_that_would_be_unsound_too(self):
        for asked in self.ASKED:
            with self.assertRaises(BadProgram):
                asked((8, ("a", "a"), (("tell", "z"), ("tell", 1))))

    def test_unsound_programs(self):
        for program, wrong in UNSOUND:
            for asked in self.ASKED:
                with self.assertRaises(Unsound) as held:
                    asked(program)
                self.assertEqual((held.exception.place, held.exception.what), wrong)

    def refuses_place(self, program, place):
        with self.assertRaises(BadPlace):
            names_at(program, place)
        for other in ((), (TELL_A,)):
            with self.assertRaises(BadPlace):
                put_at(program, place, other)

    def test_no_places(self):
        for place in NOT_PLACES:
            self.refuses_place(SAMPLE, place)

    def test_one_beyond_the_last(self):
        for program in (SAMPLE, (8, ("a",), (TELL_A,)), (8, ("a",), rows_of_many(60))):
            many = len(places_of(program))
            self.assertIs(type(names_at(program, many - 1)), list)
            for place in (-1, -many, many, many + 1):
                self.refuses_place(program, place)

    def test_a_program_without_rows_has_no_places(self):
        for place in (0, 1, -1, False):
            self.refuses_place(EMPTY, place)

    def test_rows_within_others_have_places(self):
        program = (8, ("a",), (("round", 0, (("if", "a", (), (TELL_A,)),)),))
        self.assertEqual(names_at(program, 2), ["a"])
        self.refuses_place(program, 3)

    def test_truths_are_no_places(self):
        program = (8, ("a",), rows_of_many(3))
        self.refuses_place(program, True)
        self.refuses_place(program, False)


if __name__ == "__main__":
    unittest.main()
