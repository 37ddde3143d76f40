"""The forms are asked ahead of all else, and so again and again: of a long program, too."""

import sys
import time
import unittest

from bitneed.errors import BadPlace, BadProgram, Unsound
from bitneed.forms import (first_wrong, is_program, names_at, need_program, places_of, put_at,
                           set_places)
from tests.kit import TELL_A, part_at, with_part

NAMES = ("abcdefgh", "ijklmnop", "qrstuvwx", "yzabcdef")
SET_ROW = ("set", "abcdefgh", ("pick", "abcdefgh", "ijklmnop", "qrstuvwx"))
SHUT_IN = ("round", 2, (("round", 2, (SET_ROW,) * 31),))


def shut_in(row):
    """The row within three ifs."""
    for _ in range(3):
        row = ("if", "abcdefgh", (row,), ())
    return row


LONG = (12, NAMES, (SET_ROW,) * 24 + (shut_in(SHUT_IN),))

# The ways to its last row, and to the innermost round.
LAST = (2, 24, 2, 0, 2, 0, 2, 0, 2, 0, 2, 30)
INNERMOST = LAST[:-2]

ASKED = [
    (is_program, (), True),
    (first_wrong, (), None),
    (need_program, (), None),
    (places_of, (), [SET_ROW] * 24 + [part_at(LONG, LAST[:many]) for many in (2, 4, 6, 8, 10)]
     + [SET_ROW] * 31),
    (set_places, (), list(range(24)) + list(range(29, 60))),
    (names_at, (59,), sorted(NAMES)),
    (names_at, (0,), sorted(NAMES)),
    (put_at, (59, ()), with_part(LONG, INNERMOST, ("round", 2, (SET_ROW,) * 30))),
    (put_at, (59, (TELL_A,)), with_part(LONG, LAST, TELL_A)),
    (put_at, (0, ()), LONG[:2] + (LONG[2][1:],)),
    (put_at, (27, (TELL_A,)), LONG[:2] + ((SET_ROW,) * 24 + (shut_in(TELL_A),),)),
]


def calls_of(asked, *parts):
    """How many calls an asking makes: unlike its time, on each machine as many."""
    calls = []

    def note(_, event, __):
        if event in ("call", "c_call"):
            calls.append(event)

    sys.setprofile(note)
    try:
        asked(*parts)
    finally:
        sys.setprofile(None)
    return len(calls)


class Often(unittest.TestCase):
    def test_it_is_as_long_as_can_be(self):
        self.assertEqual(len(places_of(LONG)), 60)
        self.assertEqual(part_at(LONG, LAST), SET_ROW)
        self.assertEqual(part_at(LONG, INNERMOST)[0], "round")

    def test_answers(self):
        for asked, parts, told in ASKED:
            for _ in range(3):
                self.assertEqual(asked(LONG, *parts), told, asked.__name__)

    def test_a_thousand_askings(self):
        # This takes some hundredths of a second; a slow machine may take far longer.
        for asked, parts, told in ASKED:
            begun = time.perf_counter()
            for _ in range(1000):
                last = asked(LONG, *parts)
            self.assertLess(time.perf_counter() - begun, 3, asked.__name__)
            self.assertEqual(last, told)

    def test_one_asking_makes_few_calls(self):
        # A name of eight letters, looked at letter by letter each time that it
        # stands there, would make some four thousand of them.
        for asked, parts, _ in ASKED:
            self.assertLess(calls_of(asked, LONG, *parts), 1500, asked.__name__)

    def test_refusals(self):
        unsound = with_part(LONG, LAST, ("tell", "z"))
        for _ in range(3):
            self.assertEqual(first_wrong(unsound), (59, "name"))
            for asked, parts, _ in ASKED[2:]:
                with self.assertRaises(Unsound) as held:
                    asked(unsound, *parts)
                self.assertEqual((held.exception.place, held.exception.what), (59, "name"))
            for wrong in (with_part(LONG, LAST, ("tell", "Z")), with_part(LONG, LAST, ("tell",))):
                self.assertIs(is_program(wrong), False)
                for asked, parts, _ in ASKED[1:]:
                    with self.assertRaises(BadProgram):
                        asked(wrong, *parts)
            for place in (60, -1, True, None, "59"):
                for asked, parts in ((names_at, ()), (put_at, ((),))):
                    with self.assertRaises(BadPlace):
                        asked(LONG, place, *parts)

    def test_truths_in_a_program_asked_for_just_ahead(self):
        one = with_part(LONG, LAST, ("set", "x", ("number", 1)))
        true = with_part(LONG, LAST, ("set", "x", ("number", True)))
        once = with_part(LONG, INNERMOST + (1,), 1)
        once_true = with_part(LONG, INNERMOST + (1,), True)
        for good, bad in ((one, true), (once, once_true)):
            self.assertEqual(good, bad)
            for asked, parts, _ in ASKED[1:]:
                for _ in range(2):
                    asked(good, *parts)
                    with self.assertRaises(BadProgram):
                        asked(bad, *parts)
            self.assertIs(is_program(good), True)
            self.assertIs(is_program(bad), False)

    def test_what_is_told_is_the_askers_own(self):
        for asked, parts, told in ASKED:
            mine = asked(LONG, *parts)
            if isinstance(mine, list):
                mine.clear()
            self.assertEqual(asked(LONG, *parts), told)


if __name__ == "__main__":
    unittest.main()
