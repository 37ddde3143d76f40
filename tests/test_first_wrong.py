import itertools
import unittest

from bitneed.errors import BadProgram, Unsound
from bitneed.forms import first_wrong, is_program, need_program
from tests.kit import SAMPLE, SET_A, TELL_A, Maker, rows_of_many

USING_B = [("copy", "b"), ("up", "b", 0), ("down", "b", 3)]
USING_A_AND_B = [(kind,) + names
                 for kind in ("add", "less", "and", "or", "unlike", "same", "below")
                 for names in (("a", "b"), ("b", "a"), ("b", "b"))]
PICKING_B = [("pick",) + names for names in itertools.product("ab", repeat=3) if "b" in names]


def ways_through(rows, there):
    """All lists of (the row's path, the names set by then) that a going through rows can tell.

    An oracle that goes through the rows instead of looking at them: it takes
    each way of each if, and goes twice through the rows of a round.
    """
    goings = [([], there)]
    for at, row in enumerate(rows):
        goings = [(seen + [((at,) + path, names) for path, names in more], end)
                  for seen, names in goings
                  for more, end in ways_through_row(row, names)]
    return goings


def ways_through_row(row, there):
    here = [((), there)]
    if row[0] == "set":
        return [(here, there | {row[1]})]
    if row[0] == "tell":
        return [(here, there)]
    if row[0] == "if":
        return [(here + [((way,) + path, names) for path, names in seen], end)
                for way in (2, 3)
                for seen, end in ways_through(row[way], there)]
    once = [(here + [((2,) + path, names) for path, names in seen], end)
            for seen, end in ways_through(row[2], there)]
    return [(seen, there) for seen, end in once] if row[1] == 0 else once


def used_by(row):
    if row[0] == "set":
        return {part for part in row[2][1:] if isinstance(part, str)}
    return set() if row[0] == "round" else {row[1]}


def row_at(rows, path):
    row = rows[path[0]]
    return row_at(row[path[1]], path[2:]) if len(path) > 1 else row


def wrong_by_going(program):
    """The first place at which some going uses a name that it hasn't set, None without one."""
    there = {}
    for seen, _ in ways_through(program[2], frozenset(program[1])):
        for path, names in seen:
            there[path] = there.get(path, names) & names
    # Paths rise as places do: what is within a row has the row's path ahead.
    for place, path in enumerate(sorted(there)):
        if not used_by(row_at(program[2], path)) <= there[path]:
            return (place, "name")
    return None


class WrongTest(unittest.TestCase):
    def told(self, program, wrong):
        self.assertIs(is_program(program), True)
        self.assertEqual(first_wrong(program), wrong)
        if wrong is None:
            self.assertIsNone(need_program(program))
        else:
            self.assertIs(type(first_wrong(program)), tuple)
            with self.assertRaises(Unsound) as held:
                need_program(program)
            self.assertEqual((held.exception.place, held.exception.what), wrong)

    def wrong_at(self, inputs, rows, place):
        self.told((8, inputs, rows), None if place is None else (place, "name"))


class RightPrograms(WrongTest):
    def test_none(self):
        self.told(SAMPLE, None)
        self.told((1, (), ()), None)
        self.told((12, ("a", "b", "c", "d"), ()), None)
        self.told((8, (), (("round", 12, ()),)), None)

    def test_no_programs(self):
        for thing in (None, 0, True, "", (), [], (8, ()), [8, (), ()], (8, (), [])):
            with self.assertRaises(BadProgram):
                first_wrong(thing)
            with self.assertRaises(BadProgram):
                need_program(thing)


class AlikeInputs(WrongTest):
    def test_wherever_they_stand(self):
        for inputs in ("aa", "abca", "abbc", "aabc", "abcc", "aaaa", "abab"):
            self.wrong_at(tuple(inputs), (), -1)

    def test_unlike_ones(self):
        for inputs in ("", "a", "ab", "abcd", "dcba"):
            self.wrong_at(tuple(inputs), (), None)
        self.wrong_at(("a", "aa", "aaa", "aaaa"), (), None)

    def test_ahead_of_all_else(self):
        self.wrong_at(("a", "a"), (("tell", "z"),), -1)
        long = (("round", 12, (("round", 12, (("round", 12, rows_of_many(5)),)),)),)
        self.told((8, ("a", "a"), long), (-1, "name"))
        self.told((8, ("a", "a"), (("tell", "z"),) + long), (-1, "name"))


class UsedNames(WrongTest):
    def test_by_each_expr(self):
        for expr in USING_B + USING_A_AND_B + PICKING_B:
            rows = (SET_A, ("set", "c", expr))
            self.wrong_at(("b",), rows, None)
            self.wrong_at((), rows, 1)
            self.wrong_at(("c",), rows, 1)
        self.wrong_at((), (("set", "a", ("number", 0)),), None)

    def test_by_each_row(self):
        self.wrong_at((), (("tell", "a"),), 0)
        self.wrong_at((), (("if", "a", (), ()),), 0)
        self.wrong_at((), (("round", 3, ()),), None)
        self.wrong_at((), (("set", "a", ("number", 1)),), None)
        self.wrong_at(("a",), (("tell", "a"), ("if", "a", (), ())), None)

    def test_a_row_does_not_use_what_it_sets_itself(self):
        self.wrong_at((), (("set", "a", ("copy", "a")),), 0)
        self.wrong_at((), (SET_A, ("set", "a", ("copy", "a"))), None)
        self.wrong_at(("b",), (("set", "a", ("pick", "b", "a", "b")),), 0)

    def test_a_row_further_down_sets_it_too_late(self):
        self.wrong_at((), (TELL_A, SET_A), 0)
        self.wrong_at((), (("round", 2, (TELL_A, SET_A)),), 1)

    def test_names_of_which_one_begins_another(self):
        self.wrong_at(("ab",), (("tell", "a"),), 0)
        self.wrong_at(("a",), (("tell", "ab"),), 0)

    def test_the_first_place_is_told(self):
        self.wrong_at(("a",), (TELL_A, ("tell", "y"), ("tell", "z")), 1)
        self.wrong_at(("a",), (("if", "a", (TELL_A,), (("tell", "y"),)), ("tell", "z")), 2)
        self.wrong_at((), (("if", "z", (("tell", "y"),), ()),), 0)
        self.wrong_at(("a",), (("if", "a", (("tell", "y"),), (("tell", "z"),)),), 1)

    def test_within_either_way(self):
        rows = (("if", "b", (SET_A, TELL_A), (TELL_A,)),)
        self.wrong_at(("b",), rows, 3)
        rows = (("if", "b", (TELL_A,), (SET_A, TELL_A)),)
        self.wrong_at(("b",), rows, 1)
        rows = (("if", "b", (SET_A, TELL_A), (SET_A, TELL_A)),)
        self.wrong_at(("b",), rows, None)
        rows = (SET_A, ("if", "a", (TELL_A,), (TELL_A,)), TELL_A)
        self.wrong_at((), rows, None)

    def test_behind_an_if(self):
        for first, second, place in (((), (), 1), ((SET_A,), (), 2), ((), (SET_A,), 2),
                                     ((SET_A,), (SET_A,), None)):
            self.wrong_at(("b",), (("if", "b", first, second), TELL_A), place)
            self.wrong_at(("a", "b"), (("if", "b", first, second), TELL_A), None)
            place = None if place is None else place + 1
            self.wrong_at(("b",), (("round", 1, (("if", "b", first, second), TELL_A)),), place)

    def test_behind_ifs_within_one_another(self):
        both = ("if", "b", (SET_A,), (SET_A,))
        one = ("if", "b", (SET_A,), ())
        self.wrong_at(("b",), (("if", "b", (both,), (SET_A,)), TELL_A), None)
        self.wrong_at(("b",), (("if", "b", (one,), (SET_A,)), TELL_A), 4)
        self.wrong_at(("b",), (("if", "b", (SET_A,), (one,)), TELL_A), 4)

    def test_names_of_different_ways(self):
        set_c = ("set", "c", ("number", 1))
        rows = (("if", "b", (SET_A, set_c), (set_c,)), ("tell", "c"), TELL_A)
        self.wrong_at(("b",), rows, 5)

    def test_behind_a_round(self):
        for n in range(13):
            rows = (("round", n, (SET_A, TELL_A)), TELL_A)
            self.wrong_at((), rows, 3 if n == 0 else None)
            self.wrong_at(("a",), rows, None)
            self.wrong_at((), (("round", n, ()), TELL_A), 1)

    def test_within_a_round_of_0(self):
        self.wrong_at((), (("round", 0, (TELL_A,)),), 1)
        self.wrong_at((), (("round", 0, (SET_A, TELL_A)),), None)
        self.wrong_at(("a",), (("round", 0, (TELL_A,)),), None)

    def test_behind_rounds_within_one_another(self):
        for outer, inner in itertools.product((0, 1, 2), repeat=2):
            rows = (("round", outer, (("round", inner, (SET_A,)), TELL_A)),)
            self.wrong_at((), rows, 3 if inner == 0 else None)
            rows = (("round", outer, (("round", inner, (SET_A,)),)), TELL_A)
            self.wrong_at((), rows, 3 if 0 in (outer, inner) else None)

    def test_a_name_stays_there_behind_a_round_of_0(self):
        rows = (SET_A, ("round", 0, (("set", "b", ("copy", "a")),)), TELL_A, ("tell", "b"))
        self.wrong_at((), rows, 4)

    def test_as_a_going_through_tells(self):
        told = {}
        for seed in range(3000):
            program = Maker(seed).program()
            wrong = wrong_by_going(program)
            self.assertEqual(first_wrong(program), wrong, program)
            told[wrong] = told.get(wrong, 0) + 1
        self.assertGreater(told[None], 100)
        self.assertGreater(len(told), 6)


def rows_of_steps(steps):
    """Rows that have so many steps, at most 2,100, and are few."""
    rows = ()
    if steps > 156:
        many = (steps - 13) // 144
        rows += (("round", 12, (("round", 12, rows_of_many(many)),)),)
        steps -= 13 + 144 * many
    if steps > 12:
        many = (steps - 1) // 12
        rows += (("round", 12, rows_of_many(many)),)
        steps -= 1 + 12 * many
    return rows + rows_of_many(steps)


class Steps(WrongTest):
    def have(self, rows, steps):
        """That these rows have so many steps: beside others they reach the bound, and go beyond."""
        for most, wrong in ((2000, None), (2001, (-1, "long"))):
            rest = rows_of_steps(most - steps)
            self.told((8, ("a",), rows + rest), wrong)
            self.told((8, ("a",), rest + rows), wrong)

    def test_no_rows(self):
        self.have((), 0)

    def test_of_each_row_alone(self):
        for row in (TELL_A, SET_A, ("if", "a", (), ()), ("round", 0, ()), ("round", 12, ())):
            self.have((row,), 1)
            self.have((row,) * 5, 5)

    def test_of_an_if_the_way_that_has_more(self):
        for first, second in itertools.product((0, 1, 2, 7), repeat=2):
            row = ("if", "a", rows_of_many(first), rows_of_many(second))
            self.have((row,), 1 + max(first, second))

    def test_the_way_that_has_more_may_have_fewer_rows(self):
        few = (("round", 12, (SET_A,)),)
        self.have((("if", "a", few, rows_of_many(9)),), 14)
        self.have((("if", "a", rows_of_many(9), few),), 14)

    def test_of_a_round(self):
        for n, many in itertools.product((0, 1, 2, 12), (0, 1, 5)):
            self.have((("round", n, rows_of_many(many)),), 1 + n * many)

    def test_of_rows_within_one_another(self):
        ways = ("if", "a", rows_of_many(3), rows_of_many(4))
        self.have((("round", 7, (ways, TELL_A)),), 1 + 7 * 6)
        self.have((("if", "a", (("round", 7, (ways, TELL_A)),), (ways,)),), 2 + 7 * 6)
        self.have((("if", "a", (ways,), (("if", "a", (), (ways,)),)),), 1 + 1 + 5)
        self.have((("round", 2, (("round", 3, (("round", 4, (SET_A,) * 5),)),)),),
                  1 + 2 * (1 + 3 * (1 + 4 * 5)))

    def test_a_round_of_0_has_1(self):
        deep = ("round", 12, (("round", 12, rows_of_many(20)),))
        self.told((8, ("a",), (deep,)), (-1, "long"))
        self.have((("round", 0, (("round", 12, (("round", 12, (SET_A,)),)),)),), 1)
        self.told((8, ("a",), (("round", 0, (deep,)),)), None)
        self.told((8, ("a",), (("round", 1, (deep,)),)), (-1, "long"))

    def test_the_most_that_can_be_written(self):
        rows = (("round", 12, (("round", 12, (("round", 12, rows_of_many(57)),)),)),)
        self.told((8, ("a",), rows), (-1, "long"))

    def test_behind_all_else(self):
        long = (("round", 12, (("round", 12, rows_of_many(20)),)),)
        self.told((8, ("b",), long), (-1, "long"))
        self.told((8, ("b",), long + (("tell", "z"),)), (22, "name"))
        self.told((8, ("b",), (("tell", "z"),) + long), (0, "name"))


if __name__ == "__main__":
    unittest.main()
