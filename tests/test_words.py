import unittest

from bitneed.words import is_name, is_whole, number_in, rows_of
from tests.kit import Hostile, LikeAll, Seeming

NO_NUMBERS = [None, True, False, "", "1", b"1", (), (1,), [], [1], {}, set(), frozenset(),
              range(2), object(), len, int, Hostile(), LikeAll(), Seeming()]
NO_NAMES = [None, True, False, 0, 1, -1, b"a", b"", (), ("a",), [], ["a"], {}, {"a": 1}, set(),
            {"a"}, range(2), object(), len, str, Hostile(), LikeAll(), Seeming()]


class Wholes(unittest.TestCase):
    def test_both_ends_and_one_beyond(self):
        for least, most in ((0, 5), (-3, 3), (1, 1), (-9, -2), (0, 2 ** 70)):
            self.assertIs(is_whole(least, least, most), True)
            self.assertIs(is_whole(most, least, most), True)
            self.assertIs(is_whole(least - 1, least, most), False)
            self.assertIs(is_whole(most + 1, least, most), False)

    def test_all_between(self):
        self.assertEqual([n for n in range(-9, 9) if is_whole(n, -2, 3)], [-2, -1, 0, 1, 2, 3])

    def test_none_where_the_least_is_above_the_most(self):
        self.assertIs(is_whole(0, 0, -1), False)

    def test_truths_are_no_whole_numbers(self):
        self.assertIs(is_whole(True, 0, 5), False)
        self.assertIs(is_whole(False, 0, 5), False)
        self.assertIs(is_whole(True, 1, 1), False)

    def test_other_kinds_of_things(self):
        for thing in NO_NUMBERS:
            self.assertIs(is_whole(thing, -10, 10), False)


class Names(unittest.TestCase):
    def test_lengths(self):
        for many in range(1, 9):
            self.assertIs(is_name("z" * many), True)
        for many in (0, 9, 10, 1000):
            self.assertIs(is_name("z" * many), False)

    def test_each_small_letter(self):
        for letter in "abcdefghijklmnopqrstuvwxyz":
            self.assertIs(is_name(letter), True)
            self.assertIs(is_name("a" + letter + "z"), True)

    def test_words_of_the_language_may_be_names(self):
        for word in ("set", "tell", "if", "round", "else", "end", "number", "wide", "in"):
            self.assertIs(is_name(word), True)

    def test_other_signs(self):
        signs = [chr(code) for code in range(32, 127) if not 97 <= code <= 122]
        for sign in signs + ["\n"]:
            for text in (sign, "a" + sign, sign + "a", "a" + sign + "a"):
                self.assertIs(is_name(text), False, text)

    def test_letters_of_other_scripts(self):
        for letter in "\u00e4\u00df\u03b1\u0434\u00aa":
            for text in (letter, "a" + letter, letter + "a"):
                self.assertIs(is_name(text), False, text)

    def test_other_kinds_of_things(self):
        for thing in NO_NAMES:
            self.assertIs(is_name(thing), False)


class Numbers(unittest.TestCase):
    def test_each_that_can_be_written(self):
        for n in range(-9999, 10000):
            self.assertEqual(number_in(str(n)), n)

    def test_what_comes_is_a_whole_number(self):
        self.assertIs(type(number_in("1")), int)
        self.assertIs(type(number_in("0")), int)

    def test_figures_of_other_scripts(self):
        for text in ("\u0661", "1\u0661", "\u0661\u0662", "\u00b2", "-\u0663", "\u0967"):
            self.assertIsNone(number_in(text))

    def test_five_figures(self):
        for text in ("10000", "-10000", "99999", "12345", "00001"):
            self.assertIsNone(number_in(text))

    def test_a_nought_ahead(self):
        for text in ("00", "01", "007", "0000", "0123", "-01", "-00", "-0"):
            self.assertIsNone(number_in(text), text)

    def test_other_signs(self):
        for text in ("", "-", "--1", "1-", "+1", "+0", " 1", "1 ", "1 2", "-  1", "- 1", "1\n", "\n1",
                     "a", "1a", "0x1", "1_0", "1.", "1,0", "1e3", "(1)", "none", "/", ":"):
            self.assertIsNone(number_in(text), text)

    def test_each_sign_alone(self):
        for code in list(range(32, 127)) + [10]:
            told = number_in(chr(code))
            self.assertEqual(told, code - 48 if 48 <= code <= 57 else None)


class Rows(unittest.TestCase):
    def test_words_and_lines(self):
        self.assertEqual(rows_of("wide 8\nin a b\ntell a"),
                         [["wide", "8"], ["in", "a", "b"], ["tell", "a"]])

    def test_one_word(self):
        self.assertEqual(rows_of("a"), [["a"]])

    def test_any_number_of_blanks(self):
        self.assertEqual(rows_of("   a  b c    "), [["a", "b", "c"]])

    def test_rows_without_words(self):
        self.assertEqual(rows_of("\n\na\n  \n b\n"), [[], [], ["a"], [], ["b"], []])
        self.assertEqual(rows_of("\n"), [[], []])
        self.assertEqual(rows_of("   "), [[]])

    def test_the_empty_text(self):
        self.assertEqual(rows_of(""), [[]])

    def test_all_other_signs_stay_in_words(self):
        signs = "".join(chr(code) for code in range(33, 127))
        self.assertEqual(rows_of(signs + " " + signs), [[signs, signs]])

    def test_a_long_text(self):
        self.assertEqual(rows_of("a \n" * 4000), [["a"]] * 4000 + [[]])

    def test_told_is_the_askers_own(self):
        text = "a b\nc\n\n"
        told = rows_of(text)
        told[0].append("d")
        told[2].append("e")
        told.pop()
        self.assertEqual(rows_of(text), [["a", "b"], ["c"], [], []])

    def test_rows_are_lists_of_their_own(self):
        told = rows_of("\n\n")
        told[0].append("a")
        self.assertEqual(told, [["a"], [], []])


if __name__ == "__main__":
    unittest.main()
