import random
import re
import unittest

from bitneed.desk import Desk, all_said
from bitneed.errors import (BadAsked, BadInput, BadLine, BadPlace, BadText, BadWidths, BitError,
                            TooMany, Unsound)
from bitneed.forms import places_of, set_places
from bitneed.fronts import facts_ahead
from bitneed.losing import loses
from bitneed.needs import needs
from bitneed.plain import made_plain
from bitneed.reading import program_in
from bitneed.rules import rewritten
from bitneed.running import narrowed, run
from bitneed.showing import program_text
from bitneed.truly import alone, together
from bitneed.trying import apart_by_widths
from bitneed.widths import widths
from tests.kit import ODD, SAMPLE, SAMPLE_TEXT, sound_programs

RULES = ["names", "more", "twin", "one", "turn", "choose", "into"]

TEXT = """wide 4
in a b
set x add a b
set m number 6
set y and x m
if m
set z up y 2
else
tell a
end
round 0
tell b
end
tell y"""

FIRST_WORDS = ["program", "run", "narrow", "facts", "needs", "behind", "widths", "loses", "alone",
               "together", "apart", "plain", "rule", "back"]


class Clerk:
    """An oracle: each line told by its words, one by one, from what the functions tell."""

    def __init__(self, text):
        self.programs = [program_in(text)]

    def said(self, line):
        words = [word for word in line.split(" ") if word]
        if "\n" in line or not words or words[0] not in FIRST_WORDS:
            return "bad line"
        numbers = words[2:] if words[0] == "rule" else words[1:]
        if words[0] == "rule" and not re.fullmatch("[a-zA-Z]+", " ".join(words[1:2])):
            return "bad line"
        if not all(re.fullmatch("0|-?[1-9][0-9]{0,3}", word) for word in numbers):
            return "bad line"
        many = {"run": None, "narrow": None, "apart": None, "rule": 1, "facts": 1, "needs": 1,
                "behind": 1, "alone": 1}.get(words[0], 0)
        if many is not None and many != len(numbers):
            return "bad line"
        try:
            return getattr(self, words[0])(*words[1:2] * (words[0] == "rule"), *map(int, numbers))
        except BitError as error:
            return {BadInput: "bad input", BadPlace: "bad place", BadWidths: "bad widths",
                    BadAsked: "not asked", TooMany: "too many"}[type(error)]

    def now(self):
        return self.programs[-1]

    def listed(self, parts, between=" "):
        return between.join(map(str, parts)) or "none"

    def program(self):
        return " ; ".join(program_text(self.now()).split("\n"))

    def run(self, *words):
        told, lost = run(self.now(), words)
        return self.listed(told) + ", lost " + self.listed(lost)

    def narrow(self, *words):
        return self.listed(narrowed(self.now(), widths(self.now()), words))

    def row(self, place, told):
        if place not in range(len(told)):
            raise BadPlace()
        return told[place]

    def facts(self, place):
        told = self.row(place, facts_ahead(self.now()))
        if told is None:
            return "not come to"
        texts = []
        for name, zeros, ones in told:
            known = [("0" * (not one == "1") if zero == "1" or one == "1" else "?") or "1"
                     for zero, one in zip(self.bits(zeros), self.bits(ones))]
            texts.append(name + " " + "".join(known))
        return self.listed(texts, ", ")

    def bits(self, word):
        return format(word, f"0{self.now()[0]}b")

    def needs(self, place):
        told = self.row(place, needs(self.now()))[0]
        return self.listed([f"{name} {self.bits(bits)}" for name, bits in told], ", ")

    def behind(self, place):
        told = self.row(place, needs(self.now()))[1]
        return self.listed([f"{name} {self.bits(bits)}" for name, bits in told], ", ")

    def widths(self):
        return self.listed([f"{place} {width}" for place, width
                            in zip(set_places(self.now()), widths(self.now()))], ", ")

    def loses(self):
        return self.listed([f"{place} {word}" for place, word in enumerate(loses(self.now()))
                            if word != "none"], ", ")

    def alone(self, place):
        return str(alone(self.now(), place))

    def together(self):
        return self.listed([f"{place} {width}" for place, width
                            in zip(set_places(self.now()), together(self.now()))], ", ")

    def apart(self, *some):
        words = apart_by_widths(self.now(), some)
        return "all" if words == () else self.listed(words or ())

    def plain(self):
        self.programs.append(made_plain(self.now()))
        return "done"

    def rule(self, rule, place):
        other = rewritten(self.now(), rule, place)
        if other is None:
            return "no"
        self.programs.append(other)
        return "done"

    def back(self):
        if len(self.programs) == 1:
            return "nothing"
        self.programs.pop()
        return "done"


class DeskTest(unittest.TestCase):
    def said(self, text, *lines):
        """Lines and answers in turn, at one desk, and told all at once."""
        asked, wanted = list(lines[::2]), list(lines[1::2])
        desk = Desk(text)
        self.assertEqual([desk.said(line) for line in asked], wanted)
        self.assertEqual(all_said(text, asked), wanted)


class Answers(DeskTest):
    def test_program(self):
        self.said(TEXT, "program", "wide 4 ; in a b ; set x add a b ; set m number 6 ; set y and x m ; "
                  "if m ; set z up y 2 ; else ; tell a ; end ; round 0 ; tell b ; end ; tell y")
        self.said("  wide  4 \n\nin\n", "program", "wide 4 ; in")

    def test_run(self):
        self.said(TEXT, "run 3 3", "6, lost 4", "run 15 15", "6, lost 0 4", "run 15 1", "0, lost 0",
                  "run 0 1", "0, lost none")
        self.said("wide 4\nin", "run", "none, lost none")
        self.said("wide 4\nin a\nset x add a a", "run 7", "none, lost none", "run 8", "none, lost 0")
        self.said("wide 12\nin a\ntell a\ntell a", "run 4095", "4095 4095, lost none")

    def test_narrow(self):
        self.said(TEXT, "narrow 15 15", "6", "narrow 1 2", "2")
        self.said("wide 4\nin", "narrow", "none")
        self.said("wide 4\nin a\ntell a\ntell a", "narrow 3", "3 3")

    def test_facts(self):
        self.said(TEXT, "facts 0", "a ????, b ????", "facts 3", "a ????, b ????, m 0110, x ????, y 0??0",
                  "facts 5", "not come to", "facts 7", "not come to",
                  "facts 8", "a ????, b ????, m 0110, x ????, y 0??0")
        self.said("wide 1\nin\nset a number 1\ntell a", "facts 0", "none", "facts 1", "a 1")

    def test_needs_and_behind(self):
        self.said(TEXT, "needs 0", "a 0111, b 0111", "behind 0", "x 0110", "needs 8", "y 1111",
                  "behind 8", "none", "needs 5", "none", "behind 5", "none", "needs 7", "none",
                  "behind 3", "y 1111", "needs 3", "m 0010, y 1111")

    def test_widths(self):
        self.said(TEXT, "widths", "0 3, 1 3, 2 3, 4 0")
        self.said("wide 4\nin a\ntell a", "widths", "none")

    def test_loses(self):
        self.said(TEXT, "loses", "0 perhaps, 1 never, 2 never, 4 perhaps")
        self.said("wide 2\nin\nset a number 3\nset a add a a", "loses", "0 never, 1 always")
        self.said("wide 4\nin a\ntell a", "loses", "none")

    def test_alone_and_together(self):
        self.said(TEXT, "alone 0", "3", "alone 4", "0", "together", "0 3, 1 3, 2 3, 4 0")
        self.said("wide 4\nin a\ntell a", "together", "none", "alone 0", "bad place")

    def test_apart(self):
        self.said(TEXT, "apart 4 4 4 4", "none", "apart 3 3 3 0", "none", "apart 2 3 3 0", "0 4",
                  "apart 0 0 0 0", "0 0",
                  "apart 0 4 4 4", "0 2", "apart 4 2 4 4", "0 4")
        self.said("wide 4\nin\nset a number 5\ntell a", "apart 3", "none", "apart 2", "all",
                  "apart 0", "all")
        self.said("wide 4\nin a\ntell a", "apart", "none")

    def test_plain(self):
        self.said(TEXT, "plain", "done", "program", "wide 4 ; in a b ; set x add a b ; "
                  "set m number 6 ; set y and x m ; tell y", "plain", "done", "back", "done",
                  "back", "done", "back", "nothing")

    def test_rule(self):
        text = "wide 4\nin b\nset x add b b\ntell x"
        self.said(text, "rule names 0", "done", "program", "wide 4 ; in a ; set b add a a ; tell b",
                  "rule twin 0", "done", "rule twin 1", "no", "rule names 1", "no",
                  "rule more 1", "done", "program",
                  "wide 4 ; in a ; set b add a a ; set c number 0 ; tell b")

    def test_what_is_done_stands_there_for_all_lines(self):
        self.said("wide 4\nin a\nset x pick a a a\ntell x", "rule choose 0", "done",
                  "widths", "1 4, 2 0", "run 0", "0, lost none", "facts 3", "a ????, x ????",
                  "facts 2", "a 0000", "needs 0", "a 1111", "loses", "1 never, 2 never",
                  "together", "1 4, 2 0", "alone 2", "0", "apart 3 0", "8", "plain", "done",
                  "program", "wide 4 ; in a ; if a ; set x copy a ; else ; set x number 0 ; end ; tell x",
                  "rule into 0", "done", "facts 3", "a 0000", "back", "done", "back", "done",
                  "back", "done", "widths", "0 4")


class Back(DeskTest):
    def test_the_program_ahead_of_the_last_one(self):
        text = "wide 4\nin a\ntell a"
        shown = "wide 4 ; in a ; tell a"
        more = "wide 4 ; in a ; set b number 0 ; tell a"
        most = "wide 4 ; in a ; set c number 0 ; set b number 0 ; tell a"
        self.said(text, "back", "nothing", "rule more 0", "done", "program", more, "rule more 0", "done",
                  "program", most, "back", "done", "program", more, "rule names 0", "done",
                  "back", "done", "program", more, "plain", "done", "program", shown,
                  "back", "done", "program", more, "back", "done", "program", shown,
                  "back", "nothing", "back", "nothing", "program", shown)

    def test_what_is_the_same_is_told_too(self):
        self.said("wide 4\nin a\ntell a", "plain", "done", "rule names 0", "done", "plain", "done",
                  "back", "done", "back", "done", "back", "done", "back", "nothing")

    def test_what_does_not_fit_or_is_refused_is_not(self):
        self.said("wide 4\nin a\ntell a", "rule twin 0", "no", "rule twin 7", "bad place",
                  "rule twins 0", "not asked", "rule twin", "bad line", "plain 1", "bad line",
                  "back", "nothing")

    def test_many(self):
        asked = ["rule more 0"] * 30 + ["back"] * 31 + ["program"]
        self.assertEqual(all_said("wide 4\nin\n", ["rule more 0", "plain", "back", "back"]),
                         ["bad place", "done", "done", "nothing"])
        self.assertEqual(all_said("wide 4\nin a\ntell a", asked),
                         ["done"] * 60 + ["nothing", "wide 4 ; in a ; tell a"])


class Refused(DeskTest):
    def test_bad_input(self):
        for first in ("run", "narrow"):
            for numbers in ("", "1", "1 2 3", "16 0", "0 16", "-1 0", "0 -1", "9999 0", "1 -9999"):
                self.said(TEXT, f"{first} {numbers}", "bad input")
            self.said("wide 4\nin", f"{first} 0", "bad input")

    def test_bad_place(self):
        for first in ("facts", "needs", "behind", "alone", "rule names", "rule into"):
            for place in ("9", "-1", "9999", "-9999", "10"):
                self.said(TEXT, f"{first} {place}", "bad place")
            self.said("wide 4\nin", f"{first} 0", "bad place")
        for place in ("3", "5", "6", "7", "8"):
            self.said(TEXT, f"alone {place}", "bad place")

    def test_bad_widths(self):
        for numbers in ("", "4", "4 4 4", "4 4 4 4 4", "5 4 4 4", "4 4 4 -1", "0 0 0 9999"):
            self.said(TEXT, f"apart {numbers}", "bad widths")
        self.said("wide 4\nin", "apart 0", "bad widths")

    def test_not_asked(self):
        for word in ("Names", "NAMES", "name", "a", "Z", "rule", "back", "plain", "twins" * 9):
            for place in ("0", "-1", "9999"):
                self.said(TEXT, f"rule {word} {place}", "not asked")

    def test_too_many(self):
        text = "wide 5\nin a b\nset x copy a\ntell x"
        self.said(text, "together", "too many", "alone 0", "too many", "apart 5", "too many",
                  "alone 1", "bad place", "apart 6", "bad widths", "apart", "bad widths",
                  "apart 5 5", "bad widths", "alone 2", "bad place", "widths", "0 5",
                  "run 31 31", "31, lost none")

    def test_bad_lines(self):
        for line in ("", " ", " " * 50, "\n", "widths\n", "\nwidths", "run 1\n2", "run 1 2\n",
                     "program 1", "program x", "widths 0", "loses 0", "together 0", "plain 0", "back 0",
                     "back back", "facts", "facts a", "facts 1 2", "facts 1 x", "needs", "needs 0 0",
                     "behind", "behind -", "alone", "alone 0 0", "run x", "run 1 x", "run a b",
                     "narrow 1 b", "apart 1 1 1 x", "rule", "rule names", "rule names x",
                     "rule names 0 0", "rule 0", "rule 0 names", "rule 0 0", "rule na-mes 0",
                     "rule names1 0", "rule twin! 0", "rule , 0", "rule names 0 x", "rule x y",
                     "Program", "PROGRAM", "programs", "wide 4", "set x add a b", "else", "x", "0",
                     "facts 00", "facts 01", "facts 00000", "facts 12345", "facts -0", "facts -01",
                     "facts +1", "facts 1.0", "facts 1,", "facts --1", "facts 1-", "facts 0x1",
                     "facts 10000", "facts -10000", "run 10000 0", "run 0 00", "apart 4 4 4 04",
                     "widths,", "wid ths", "widths\t", "\twidths", "facts\t1", "facts 1\t", "facts 1\r",
                     "run 1\x0b2", "facts \u0661", "rule n\u00e4mes 0", "facts \u00b2", "~", "#", "%"):
            self.said(TEXT, line, "bad line", "program", Desk(TEXT).said("program"))

    def test_blanks_in_any_number(self):
        for gap in (" ", "  ", " " * 40):
            self.said(TEXT, f"{gap}run{gap}3{gap}3{gap}", "6, lost 4", f"{gap}widths",
                      "0 3, 1 3, 2 3, 4 0", f"back{gap}", "nothing", f"rule{gap}names{gap}0", "done")

    def test_no_text(self):
        desk = Desk(TEXT)
        for thing in [thing for thing in ODD if type(thing) is not str] + [0, ("widths",), b"widths"]:
            for _ in range(2):
                with self.assertRaises(BadLine):
                    desk.said(thing)
                with self.assertRaises(BadLine):
                    all_said(TEXT, ["widths", thing])
        self.assertEqual(desk.said("back"), "nothing")
        self.assertEqual(desk.said("widths"), "0 3, 1 3, 2 3, 4 0")

    def test_texts_that_tell_no_program(self):
        for text, line, word in (("", 2, 1), ("wide 4", 2, 1), ("wide 4\nin\ntell A", 3, 2),
                                 ("wide 13\nin", 1, 2), (None, 0, 0), (["wide 4"], 0, 0), (4, 0, 0)):
            for asked in (Desk, lambda text: all_said(text, []), lambda text: all_said(text, [None])):
                with self.assertRaises(BadText) as held:
                    asked(text)
                self.assertEqual((held.exception.line, held.exception.word), (line, word))

    def test_texts_of_unsound_programs(self):
        for text, place, what in (("wide 4\nin a a", -1, "name"), ("wide 4\nin\ntell a", 0, "name"),
                                  ("wide 4\nin a\n" + "round 12\n" * 3 + "tell a\ntell a\n" + "end\n" * 3,
                                   -1, "long")):
            for asked in (Desk, lambda text: all_said(text, []), lambda text: all_said(text, [None])):
                with self.assertRaises(Unsound) as held:
                    asked(text)
                self.assertEqual((held.exception.place, held.exception.what), (place, what))


class Desks(unittest.TestCase):
    def test_two_have_nothing_in_common(self):
        one, other = Desk(TEXT), Desk(TEXT)
        before = other.said("program")
        self.assertEqual(one.said("plain"), "done")
        self.assertNotEqual(one.said("program"), before)
        self.assertEqual(other.said("program"), before)
        self.assertEqual(other.said("back"), "nothing")
        self.assertEqual((one.said("widths"), other.said("widths")),
                         ("0 3, 1 3, 2 3", "0 3, 1 3, 2 3, 4 0"))
        self.assertEqual(one.said("back"), "done")
        self.assertEqual(one.said("program"), before)

    def test_a_desk_is_made_anew_each_time(self):
        for _ in range(3):
            self.assertEqual(all_said(TEXT, ["plain", "back", "back"]), ["done", "done", "nothing"])

    def test_lists_are_the_askers_own(self):
        lines = ["widths", "run 3 3"]
        told = all_said(TEXT, lines)
        self.assertEqual(lines, ["widths", "run 3 3"])
        self.assertIs(type(told), list)
        kept = list(told)
        told.reverse()
        told.append(None)
        self.assertEqual(all_said(TEXT, lines), kept)
        lines.clear()
        self.assertEqual(all_said(TEXT, lines), [])

    def test_asked_again_the_same_is_told(self):
        desk = Desk(SAMPLE_TEXT)
        asked = [word for word in FIRST_WORDS if word not in ("plain", "rule", "back")]
        lines = [f"{word} {rest}".rstrip() for word in asked for rest in ("", "0", "1", "0 0", "4 4")]
        told = [desk.said(line) for line in lines]
        self.assertEqual([desk.said(line) for line in reversed(lines)], told[::-1])
        desk.said("plain")
        desk.said("back")
        self.assertEqual([desk.said(line) for line in lines], told)


class ByChance(unittest.TestCase):
    def line(self, program, chance):
        """A line, mostly a good one of this program."""
        places = [str(place) for place in range(-1, len(places_of(program)) + 1)]
        word = chance.choice(FIRST_WORDS + ["rule"] * 4 + ["plain", "back", "facts", "needs", "behind"])
        most = {"run": 2 ** program[0] - 1, "narrow": 2 ** program[0] - 1, "apart": program[0]}.get(word)
        if most is None:
            many = 1 if word in ("facts", "needs", "behind", "alone", "rule") else 0
            words = [word] + [chance.choice(places)] * many
        else:
            many = len(program[1]) if word != "apart" else len(set_places(program))
            words = [word] + [str(chance.randint(0, most)) for _ in range(many)]
        if word == "rule":
            words.insert(1, chance.choice(RULES + ["rules"]))
        if chance.random() < 0.1:
            words.insert(chance.randint(0, len(words)), chance.choice(
                ["0", "-1", "a", "names", "\n", "12345", "widths", "A1"]))
        return (" " * chance.choice([1, 1, 1, 2, 5])).join(words)

    def test_against_what_the_functions_tell(self):
        chance = random.Random(80)
        kinds = {}
        for program in sound_programs(150, 5) + [SAMPLE]:
            text = program_text(program)
            desk, clerk = Desk(text), Clerk(text)
            lines = []
            for _ in range(40):
                lines.append(self.line(clerk.now(), chance))
                told = desk.said(lines[-1])
                self.assertEqual(told, clerk.said(lines[-1]), (lines, text))
                self.assertIs(type(told), str)
                kinds[told if told[:1] in "bdnt" else ""] = True
            self.assertEqual(all_said(text, lines), [Clerk.said(clerk, line) for clerk in [Clerk(text)]
                                                     for line in lines])
        for told in ("bad line", "bad place", "bad widths", "not asked", "done", "no", "nothing", "none",
                     "not come to", "too many", "bad input"):
            self.assertIn(told, kinds)


if __name__ == "__main__":
    unittest.main()
