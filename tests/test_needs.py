import random
import unittest

from bitneed.errors import BadPlace, BadProgram, Unsound
from bitneed.forms import places_of
from bitneed.fronts import facts_ahead
from bitneed.needs import is_idle, needs, needs_of
from tests.kit import (NOT_PLACES, SAMPLE, SET_A, TELL_A, Walk, all_words, copy, number, size_of,
                       sound_programs)


class Rules:
    """An oracle: the rules taken one by one for all places at once, until none adds a bit.

    Needs are a set of (NAME, BIT); all of them only grow, from those that are taken at first.
    """

    def __init__(self, program, facts=None, taken=None):
        self.wide = program[0]
        self.facts = [part and {name: (zeros, ones) for name, zeros, ones in part}
                      for part in facts or facts_ahead(program)]
        many = len(self.facts)
        self.ahead = taken or [set() for _ in range(many)]
        self.behind = [set() for _ in range(many)]
        before = None
        while before != (self.ahead, self.behind):
            before = ([set(one) for one in self.ahead], [set(one) for one in self.behind])
            self.first = self.take(program[2], 0, set())

    def all_of(self, name):
        return {(name, bit) for bit in range(self.wide)}

    def take(self, rows, place, end):
        """The needs ahead of the rows, or those at their end, by what was taken so far."""
        places = []
        for row in rows:
            places.append(place)
            place += size_of(row)
        for at, row in enumerate(rows):
            self.behind[places[at]] |= self.ahead[places[at + 1]] if at + 1 < len(rows) else end
            self.ahead[places[at]] |= self.row(row, places[at], self.behind[places[at]])
        return self.ahead[places[0]] if rows else end

    def row(self, row, place, behind):
        if row[0] == "tell":
            return behind | self.all_of(row[1])
        if row[0] == "set":
            kept = {(name, bit) for name, bit in behind if name != row[1]}
            wanted = {bit for name, bit in behind if name == row[1]}
            return kept | (self.expr(row[2], wanted, self.facts[place]) if wanted else set())
        if row[0] == "round":
            if row[1] == 0:
                return behind
            ahead = self.take(row[2], place + 1, behind)
            return self.take(row[2], place + 1, behind | ahead)
        return self.choice(row, place, behind)

    def choice(self, row, place, behind):
        zeros, ones = self.facts[place][row[1]]
        first = second = set()
        if zeros != 2 ** self.wide - 1:
            first = self.take(row[2], place + 1, behind)
        if ones == 0:
            second = self.take(row[3], place + 1 + sum(map(size_of, row[2])), behind)
        if is_idle_by_rows(row[2] + row[3], {name for name, _ in behind}):
            return behind
        asked = self.lowest(row[1], ones) if ones else self.all_of(row[1])
        return first | second | asked

    def lowest(self, name, ones):
        return {(name, min(bit for bit in range(self.wide) if ones >> bit & 1))}

    def expr(self, expr, wanted, facts):
        kind, *names = expr
        bits = range(self.wide)
        if kind in ("copy", "unlike"):
            return {(name, bit) for name in names for bit in wanted}
        if kind in ("add", "less"):
            return {(name, bit) for name in names for bit in range(max(wanted) + 1)}
        if kind in ("and", "or"):
            known = facts[names[1]][0 if kind == "and" else 1]
            return ({(names[1], bit) for bit in wanted}
                    | {(names[0], bit) for bit in wanted if not known >> bit & 1})
        if kind == "up":
            return {(names[0], bit) for bit in bits if bit + names[1] in wanted}
        if kind == "down":
            return {(names[0], bit) for bit in bits if bit - names[1] in wanted}
        if kind in ("same", "below"):
            return self.all_of(names[0]) | self.all_of(names[1]) if 0 in wanted else set()
        if kind == "number":
            return set()
        zeros, ones = facts[names[0]]
        if ones:
            return self.lowest(names[0], ones) | {(names[1], bit) for bit in wanted}
        if zeros == 2 ** self.wide - 1:
            return self.all_of(names[0]) | {(names[2], bit) for bit in wanted}
        return self.all_of(names[0]) | {(name, bit) for name in names[1:] for bit in wanted}

    def told(self, needed):
        return tuple((name, sum(2 ** bit for other, bit in needed if other == name))
                     for name in sorted({name for name, _ in needed}))


def is_idle_by_rows(rows, needed):
    """Whether these are the rows of an idle if, by the names of which a bit is needed behind it."""
    for row in rows:
        if row[0] == "tell" or (row[0] == "set" and row[1] in needed):
            return False
        if row[0] in ("if", "round") and not is_idle_by_rows(sum(row[2:], ()), needed):
            return False
    return True


def of_text(text):
    """Needs of a text "NAME BITS, .."."""
    parts = [part.split() for part in text.split(", ")] if text else []
    return tuple((name, int(bits)) for name, bits in parts)


class NeedsTest(unittest.TestCase):
    def told(self, program, *wanted):
        """Each place's needs as a text "AHEAD; BEHIND"."""
        wanted = [tuple(of_text(side.strip()) for side in one.split(";")) for one in wanted]
        self.assertEqual(needs(program), tuple(wanted))


class Exprs(unittest.TestCase):
    """What is needed ahead of a row that sets x, where just some bits of x are needed behind it."""

    def ahead(self, expr, bits, wide=4, setting=()):
        """The needs ahead of the row, by these bits of x; rows ahead of it set facts."""
        rows = setting + (("set", "x", expr), number("masked", bits),
                          ("set", "told", ("and", "x", "masked")), ("tell", "told"))
        told = needs((wide, ("c", "y", "z"), rows))
        place = len(setting)
        self.assertEqual(told[place][1], (("x", bits),) if bits else ())
        return dict(told[place][0])

    def test_copy(self):
        for bits in range(16):
            self.assertEqual(self.ahead(("copy", "y"), bits), {"y": bits} if bits else {})

    def test_number(self):
        for bits in range(16):
            self.assertEqual(self.ahead(("number", 5), bits), {})

    def test_add_and_less(self):
        for kind in ("add", "less"):
            self.assertEqual(self.ahead((kind, "y", "z"), 0), {})
            for bits in range(1, 16):
                up_to = 2 ** len(format(bits, "b")) - 1
                self.assertEqual(self.ahead((kind, "y", "z"), bits), {"y": up_to, "z": up_to})
                self.assertEqual(self.ahead((kind, "y", "y"), bits), {"y": up_to})

    def test_unlike(self):
        for bits in range(1, 16):
            self.assertEqual(self.ahead(("unlike", "y", "z"), bits), {"y": bits, "z": bits})
        self.assertEqual(self.ahead(("unlike", "y", "z"), 0), {})

    def test_and(self):
        # Of y those that z hasn't as ZEROS; by y's ZEROS none of z goes out.
        self.assertEqual(self.ahead(("and", "y", "z"), 13), {"y": 13, "z": 13})
        self.assertEqual(self.ahead(("and", "y", "z"), 13, setting=(number("z", 5),)),
                         {"y": 5, "z": 13})
        self.assertEqual(self.ahead(("and", "y", "z"), 13, setting=(number("y", 5),)),
                         {"y": 13, "z": 13})
        self.assertEqual(self.ahead(("and", "y", "z"), 13, setting=(number("z", 0),)), {"z": 13})
        self.assertEqual(self.ahead(("and", "y", "y"), 13, setting=(number("y", 5),)), {"y": 13})
        self.assertEqual(self.ahead(("and", "y", "z"), 0), {})

    def test_or(self):
        self.assertEqual(self.ahead(("or", "y", "z"), 13), {"y": 13, "z": 13})
        self.assertEqual(self.ahead(("or", "y", "z"), 13, setting=(number("z", 5),)),
                         {"y": 8, "z": 13})
        self.assertEqual(self.ahead(("or", "y", "z"), 13, setting=(number("y", 5),)),
                         {"y": 13, "z": 13})
        self.assertEqual(self.ahead(("or", "y", "z"), 13, setting=(number("z", 15),)), {"z": 13})
        self.assertEqual(self.ahead(("or", "y", "y"), 13, setting=(number("y", 5),)), {"y": 13})

    def test_up_and_down(self):
        for k in range(12):
            for bits in range(16):
                for kind, moved in (("up", bits >> k), ("down", bits << k & 15)):
                    # The bits that come in are ZEROS, and are needed of x all the same.
                    self.assertEqual(self.ahead((kind, "y", k), bits), {"y": moved} if moved else {})

    def test_same_and_below(self):
        for kind in ("same", "below"):
            for bits in range(16):
                told = {"y": 15, "z": 15} if bits & 1 else {}
                self.assertEqual(self.ahead((kind, "y", "z"), bits), told)
        self.assertEqual(self.ahead(("below", "y", "y"), 1), {"y": 15})

    def test_pick_of_a_c_that_is_not_known(self):
        self.assertEqual(self.ahead(("pick", "c", "y", "z"), 6), {"c": 15, "y": 6, "z": 6})
        self.assertEqual(self.ahead(("pick", "c", "y", "y"), 6), {"c": 15, "y": 6})
        self.assertEqual(self.ahead(("pick", "y", "y", "z"), 6), {"y": 15, "z": 6})
        self.assertEqual(self.ahead(("pick", "c", "y", "z"), 0), {})

    def test_pick_of_a_c_with_a_one(self):
        for n, lowest in ((1, 1), (6, 2), (12, 4), (8, 8), (15, 1)):
            self.assertEqual(self.ahead(("pick", "c", "y", "z"), 6, setting=(number("c", n),)),
                             {"c": lowest, "y": 6})
        setting = (number("z", 12), ("set", "c", ("or", "c", "z")))
        self.assertEqual(self.ahead(("pick", "c", "y", "z"), 3, setting=setting), {"c": 4, "y": 3})
        self.assertEqual(self.ahead(("pick", "c", "c", "z"), 3, setting=(number("c", 12),)), {"c": 7})
        self.assertEqual(self.ahead(("pick", "c", "y", "z"), 0, setting=(number("c", 1),)), {})

    def test_pick_of_a_c_that_is_zero(self):
        setting = (number("c", 0),)
        self.assertEqual(self.ahead(("pick", "c", "y", "z"), 6, setting=setting), {"c": 15, "z": 6})
        self.assertEqual(self.ahead(("pick", "c", "y", "c"), 6, setting=setting), {"c": 15})
        self.assertEqual(self.ahead(("pick", "c", "y", "z"), 0, setting=setting), {})

    def test_the_name_that_is_set_is_needed_ahead_only_by_its_expr(self):
        self.assertEqual(self.ahead(("up", "x", 1), 12, setting=(copy("x", "y"),)), {"x": 6})
        self.assertEqual(self.ahead(("number", 1), 12, setting=(copy("x", "y"),)), {})

    def test_words_of_one_and_of_twelve_bits(self):
        self.assertEqual(self.ahead(("add", "y", "z"), 1, wide=1), {"y": 1, "z": 1})
        self.assertEqual(self.ahead(("pick", "c", "y", "z"), 1, wide=1), {"c": 1, "y": 1, "z": 1})
        self.assertEqual(self.ahead(("less", "y", "z"), 2048, wide=12), {"y": 4095, "z": 4095})
        self.assertEqual(self.ahead(("down", "y", 11), 1, wide=12), {"y": 2048})
        self.assertEqual(self.ahead(("same", "y", "z"), 1, wide=12), {"y": 4095, "z": 4095})


class Rows(NeedsTest):
    def test_no_rows(self):
        self.told((4, ("a",), ()))

    def test_tell(self):
        self.told((4, ("a", "b"), (("tell", "b"), TELL_A)), "a 15, b 15; a 15", "a 15; ")

    def test_behind_the_last_row_none_is_needed(self):
        self.told((4, ("a",), (SET_A, copy("b", "a"))), "; ", "; ")

    def test_names_rise_and_are_just_those_of_which_a_bit_is_needed(self):
        rows = (copy("d", "a"), ("set", "c", ("down", "a", 2)), ("set", "b", ("up", "c", 2)),
                ("tell", "d"), ("tell", "b"))
        self.told((4, ("aa", "a"), rows), "a 15; a 12, d 15", "a 12, d 15; c 3, d 15",
                  "c 3, d 15; b 15, d 15", "b 15, d 15; b 15", "b 15; ")

    def test_kinds_of_what_is_told(self):
        told = needs(SAMPLE)
        self.assertIs(type(told), tuple)
        self.assertEqual(len(told), 19)
        for both in told:
            self.assertEqual([type(both)] + [type(side) for side in both], [tuple] * 3)
            for one in both[0] + both[1]:
                self.assertEqual([type(one)] + [type(part) for part in one], [tuple, str, int])


class Ifs(NeedsTest):
    def test_both_ways(self):
        rows = (("if", "a", (copy("b", "c"),), (("set", "b", ("down", "d", 2)),)), ("tell", "b"))
        self.told((4, ("a", "c", "d"), rows), "a 15, c 15, d 12; b 15", "c 15; b 15", "d 12; b 15",
                  "b 15; ")

    def test_needs_of_both_ways_come_together(self):
        rows = (number("m", 3), ("if", "a", (("set", "b", ("and", "c", "m")),),
                                 (("set", "b", ("down", "c", 2)),)), ("tell", "b"))
        self.told((4, ("a", "c"), rows), "a 15, c 15; a 15, c 15, m 15",
                  "a 15, c 15, m 15; b 15", "c 3, m 15; b 15", "c 12; b 15", "b 15; ")

    def test_the_first_way_alone(self):
        rows = (number("a", 6), ("if", "a", (copy("b", "c"),), (copy("b", "d"),)), ("tell", "b"))
        self.told((4, ("c", "d"), rows), "c 15; a 2, c 15", "a 2, c 15; b 15", "c 15; b 15", "; ",
                  "b 15; ")

    def test_the_second_way_alone(self):
        rows = (number("a", 0), ("if", "a", (copy("b", "c"),), (copy("b", "d"),)), ("tell", "b"))
        self.told((4, ("c", "d"), rows), "d 15; a 15, d 15", "a 15, d 15; b 15", "; ", "d 15; b 15",
                  "b 15; ")

    def test_a_way_without_rows(self):
        rows = (("if", "a", (SET_A,), ()), TELL_A)
        self.told((4, ("a",), rows), "a 15; a 15", "; a 15", "a 15; ")

    def test_names_that_are_needed_behind_it_go_through_its_ways(self):
        rows = (("if", "a", (number("b", 1),), ()), ("tell", "b"), ("tell", "c"))
        self.told((2, ("a", "b", "c"), rows), "a 3, b 3, c 3; b 3, c 3", "c 3; b 3, c 3",
                  "b 3, c 3; c 3", "c 3; ")


class Idle(NeedsTest):
    def idle(self, program, *places):
        told = [place for place in range(len(places_of(program))) if is_idle(program, place)]
        self.assertEqual(told, list(places))
        for place in range(len(places_of(program))):
            self.assertIs(type(is_idle(program, place)), bool)

    def test_an_idle_if(self):
        rows = (("if", "a", (number("b", 1),), (number("c", 1),)), TELL_A, ("tell", "b"))
        program = (2, ("a", "b", "c"), (("if", "a", (number("c", 1),), (number("c", 1),)),) + rows)
        self.idle(program, 0)
        self.told(program, "a 3, b 3; a 3, b 3", "a 3, b 3; a 3, b 3", "a 3, b 3; a 3, b 3",
                  "a 3, b 3; a 3, b 3", "a 3; a 3, b 3", "a 3, b 3; a 3, b 3", "a 3, b 3; b 3",
                  "b 3; ")

    def test_of_it_x_is_not_needed(self):
        program = (2, ("a",), (("if", "a", (copy("b", "a"),), ()), ("if", "a", (), ())))
        self.idle(program, 0, 2)
        self.told(program, "; ", "; ", "; ")
        self.assertEqual(needs_of(program), (("a", 0),))

    def test_ifs_without_rows(self):
        self.idle((2, ("a",), (("if", "a", (), ()), TELL_A)), 0)

    def test_a_tell_at_any_depth(self):
        for way in (0, 1):
            for within in ((TELL_A,), (("if", "a", (), (TELL_A,)),), (("round", 2, (TELL_A,)),),
                           (("if", "a", (("round", 1, (("if", "a", (TELL_A,), ()),)),), ()),)):
                ways = (within, ()) if way == 0 else ((), within)
                self.assertIs(is_idle((2, ("a",), (("if", "a", *ways),)), 0), False)

    def test_a_tell_that_is_not_come_to(self):
        for within in ((("round", 0, (TELL_A,)),),
                       (number("b", 1), ("if", "b", (), (TELL_A,))),
                       (number("b", 0), ("if", "b", (TELL_A,), ()))):
            for ways in ((within, ()), ((), within)):
                self.assertIs(is_idle((2, ("a",), (("if", "a", *ways),)), 0), False)
        # Nor does it help that the way itself isn't come to.
        rows = (number("b", 1), ("if", "b", (), (TELL_A,)))
        self.assertIs(is_idle((2, ("a",), rows), 1), False)
        self.told((2, ("a",), rows), "; b 1", "b 1; ", "; ")

    def test_a_set_row_of_a_needed_name_at_any_depth(self):
        for within in ((SET_A,), (("if", "b", (), (SET_A,)),), (("round", 2, (SET_A,)),),
                       (("round", 0, (SET_A,)),), (number("b", 0), ("if", "b", (SET_A,), ()))):
            for ways in ((within, ()), ((), within)):
                rows = (("if", "b", *ways),)
                self.assertIs(is_idle((2, ("a", "b"), rows + (TELL_A,)), 0), False)
                self.assertIs(is_idle((2, ("a", "b"), rows + (number("a", 2), TELL_A)), 0), True)
                self.assertIs(is_idle((2, ("a", "b"), rows), 0), True)

    def test_a_needed_name_of_which_no_bit_is_needed_any_more(self):
        rows = (("if", "b", (SET_A,), ()), ("set", "a", ("up", "a", 2)), TELL_A)
        self.assertIs(is_idle((2, ("a", "b"), rows), 0), True)
        self.assertIs(is_idle((3, ("a", "b"), rows), 0), False)

    def test_within_an_idle_if(self):
        rows = (("if", "a", (number("c", 1), ("if", "c", (copy("c", "a"),), ()),
                             ("round", 2, (copy("d", "c"),))), (copy("c", "b"),)), ("tell", "b"))
        program = (2, ("a", "b"), rows)
        self.idle(program, 0, 2)
        self.told(program, "b 3; b 3", "b 3; b 3", "b 3; b 3", "b 3; b 3", "b 3; b 3", "b 3; b 3",
                  "b 3; b 3", "b 3; ")

    def test_an_if_that_is_not_come_to(self):
        rows = (number("b", 1), ("if", "b", (), (("if", "a", (), ()),)), ("round", 0, (
            ("if", "a", (), ()),)), ("if", "a", (), ()), ("tell", "b"))
        self.idle((2, ("a",), rows), 1, 5)

    def test_other_rows(self):
        rows = (SET_A, ("round", 1, ()), ("round", 0, ()), TELL_A, SET_A)
        self.idle((2, ("a",), rows))

    def test_within_a_round_by_the_needs_at_last(self):
        # Only when gone through again something of b is needed behind the if.
        rows = (("round", 2, (copy("c", "b"), ("if", "a", (number("b", 1),), ()))), ("tell", "c"))
        program = (2, ("a", "b", "c"), rows)
        self.idle(program)
        self.told(program, "a 3, b 3; c 3", "a 3, b 3; a 3, b 3, c 3",
                  "a 3, b 3, c 3; a 3, b 3, c 3", "a 3, c 3; a 3, b 3, c 3", "c 3; ")


class Rounds(NeedsTest):
    def test_of_none(self):
        rows = (("round", 0, (("tell", "b"), ("if", "b", (), ()))), TELL_A)
        self.told((2, ("a", "b"), rows), "a 3; a 3", "; ", "; ", "a 3; ")

    def test_the_needs_ahead_of_the_first_row_come_back_to_the_end(self):
        for n in (1, 2, 12):
            rows = (("round", n, (copy("b", "c"), copy("c", "d"))), ("tell", "b"))
            self.told((2, ("b", "c", "d"), rows), "c 3, d 3; b 3", "c 3, d 3; b 3, d 3",
                      "b 3, d 3; b 3, c 3, d 3", "b 3; ")

    def test_behind_the_round_stand_the_needs_behind_it(self):
        rows = (("round", 2, (("set", "a", ("down", "a", 1)),)), number("m", 1),
                ("set", "a", ("and", "a", "m")), TELL_A)
        self.told((4, ("a",), rows), "a 14; a 1", "a 14; a 15", "a 1; a 1, m 15",
                  "a 1, m 15; a 15", "a 15; ")

    def test_without_rows(self):
        self.told((2, ("a",), (("round", 3, ()), TELL_A)), "a 3; a 3", "a 3; ")

    def test_rounds_within_one_another(self):
        rows = (("round", 1, (copy("b", "c"), ("round", 1, (copy("c", "d"), copy("d", "e"))))),
                ("tell", "b"))
        program = (1, ("b", "c", "d", "e"), rows)
        self.told(program, "c 1, d 1, e 1; b 1",
                  "c 1, d 1, e 1; b 1, d 1, e 1", "b 1, d 1, e 1; b 1, c 1, d 1, e 1",
                  "b 1, d 1, e 1; b 1, c 1, e 1", "b 1, c 1, e 1; b 1, c 1, d 1, e 1", "b 1; ")


class NeedsOf(unittest.TestCase):
    def test_in_the_order_of_inputs(self):
        rows = (("set", "x", ("down", "b", 1)), ("tell", "x"), ("tell", "c"), number("d", 1),
                ("tell", "d"))
        self.assertEqual(needs_of((4, ("d", "c", "b", "a"), rows)),
                         (("d", 0), ("c", 15), ("b", 14), ("a", 0)))

    def test_without_inputs_or_rows(self):
        self.assertEqual(needs_of((4, (), (SET_A, TELL_A))), ())
        self.assertEqual(needs_of((4, ("b", "a"), ())), (("b", 0), ("a", 0)))

    def test_where_an_if_or_a_round_comes_first(self):
        self.assertEqual(needs_of((2, ("a", "b"), (("if", "a", (TELL_A,), ()),))), (("a", 3), ("b", 0)))
        self.assertEqual(needs_of((2, ("a", "b"), (("round", 2, (TELL_A,)),))), (("a", 3), ("b", 0)))
        self.assertEqual(needs_of((2, ("a", "b"), (("round", 0, (TELL_A,)),))), (("a", 0), ("b", 0)))

    def test_kinds_of_what_is_told(self):
        told = needs_of(SAMPLE)
        self.assertIs(type(told), tuple)
        for one in told:
            self.assertEqual([type(one)] + [type(part) for part in one], [tuple, str, int])


class ByChance(unittest.TestCase):
    PROGRAMS = sound_programs(700)

    def test_just_what_the_rules_add_is_needed(self):
        for program in self.PROGRAMS:
            rules = Rules(program)
            wanted = tuple((rules.told(ahead), rules.told(behind)) if facts is not None else ((), ())
                           for ahead, behind, facts in zip(rules.ahead, rules.behind, rules.facts))
            self.assertEqual(needs(program), wanted, program)
            first = dict(rules.told(rules.first))
            self.assertEqual(needs_of(program),
                             tuple((name, first.get(name, 0)) for name in program[1]))

    def test_idle_ifs(self):
        for program in self.PROGRAMS:
            told = needs(program)
            facts = facts_ahead(program)
            for place, row in enumerate(places_of(program)):
                needed = {name for name, _ in told[place][1]}
                idle = (row[0] == "if" and facts[place] is not None
                        and is_idle_by_rows(row[2] + row[3], needed))
                self.assertIs(is_idle(program, place), idle)

    def test_bits_that_are_not_needed_change_no_tellings(self):
        chance = random.Random(7)
        for program in self.PROGRAMS:
            rows, told = places_of(program), needs(program)
            most = 2 ** program[0] - 1

            def turn(place, word):
                needed = dict(told[place][1]).get(rows[place][1], 0)
                return word ^ (chance.randrange(most + 1) & ~needed)

            for words in all_words(program)[:24]:
                tellings = Walk(program, words).tellings
                self.assertEqual(Walk(program, words, turn).tellings, tellings)
                other = tuple(word ^ (chance.randrange(most + 1) & ~bits)
                              for word, (_, bits) in zip(words, needs_of(program)))
                self.assertEqual(Walk(program, other).tellings, tellings)


class Refused(unittest.TestCase):
    def test_as_need_program(self):
        for asked in (needs, needs_of, lambda program: is_idle(program, 0),
                      lambda program: is_idle(program, "no place")):
            with self.assertRaises(BadProgram):
                asked((4, ("a",), (("tell", 1),)))
            with self.assertRaises(Unsound) as held:
                asked((4, ("a",), (TELL_A, ("tell", "z"))))
            self.assertEqual((held.exception.place, held.exception.what), (1, "name"))

    def test_no_places(self):
        for place in NOT_PLACES + [19, 20, -1]:
            with self.assertRaises(BadPlace):
                is_idle(SAMPLE, place)
        with self.assertRaises(BadPlace):
            is_idle((4, ("a",), ()), 0)
        self.assertIs(is_idle(SAMPLE, 18), False)


if __name__ == "__main__":
    unittest.main()
