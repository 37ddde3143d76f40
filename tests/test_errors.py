import unittest

from bitneed import errors
from bitneed.errors import BadText, BitError, Unsound

PLAIN = ["BadProgram", "BadInput", "BadPlace", "BadFacts", "BadWidths", "BadPaper",
         "BadAsked", "TooMany", "BadLine"]


def one_of_each():
    made = [getattr(errors, name)() for name in PLAIN]
    return made + [BadText(3, 2), Unsound(7, "name")]


class Refusals(unittest.TestCase):
    def test_all_of_them_are_there(self):
        self.assertEqual(len(one_of_each()), 11)

    def test_any_refusal_is_a_value_error(self):
        self.assertEqual(BitError.__bases__, (ValueError,))

    def test_each_is_straight_under_the_one(self):
        for error in one_of_each():
            self.assertEqual(type(error).__bases__, (BitError,))

    def test_each_is_caught_by_its_own_class_and_those_above(self):
        for error in one_of_each():
            for caught in (type(error), BitError, ValueError):
                with self.assertRaises(caught) as held:
                    raise error
                self.assertIs(held.exception, error)

    def test_none_is_caught_as_another(self):
        for error in one_of_each():
            for other in one_of_each():
                self.assertEqual(isinstance(error, type(other)), type(error) is type(other))

    def test_each_is_raised_with_words_of_its_own(self):
        for name in ["BitError"] + PLAIN:
            with self.assertRaises(getattr(errors, name)) as held:
                raise getattr(errors, name)("some words")
            self.assertEqual(str(held.exception), "some words")

    def test_text_keeps_line_and_word(self):
        for line, word in ((0, 0), (1, 1), (12, 3)):
            error = BadText(line, word)
            self.assertEqual((error.line, error.word), (line, word))

    def test_unsound_keeps_place_and_what(self):
        for place, what in ((-1, "name"), (-1, "long"), (0, "name"), (59, "name")):
            error = Unsound(place, what)
            self.assertEqual((error.place, error.what), (place, what))

    def test_fields_are_of_each_object_alone(self):
        one, other = BadText(1, 2), BadText(3, 4)
        self.assertEqual((one.line, one.word, other.line, other.word), (1, 2, 3, 4))


if __name__ == "__main__":
    unittest.main()
