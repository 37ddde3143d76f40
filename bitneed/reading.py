"""Texts read as programs, line by line.

Each line is looked at as a whole, and a word that was a NAME before isn't looked
at again. Only a line that can't stand there is gone through for its first wrong word.
"""

from bitneed.errors import BadText
from bitneed.forms import (EXPR_PARTS, MOST_GOINGS, MOST_INPUTS, MOST_ROUNDS_WITHIN, MOST_ROWS,
                           MOST_SHIFT, MOST_WITHIN, WIDEST)
from bitneed.words import is_name, number_in, rows_of

CLOSING_WORDS = ("else", "end")


def program_in(text):
    """The PROGRAM that a text tells, right by its form."""
    if type(text) is not str:
        raise BadText(0, 0)
    return Text(rows_of(text)).read_program()


class Text:
    """The lines of a text that have words, which are taken one by one from above."""

    def __init__(self, all_lines):
        self.all_lines = all_lines
        self.lines = [words for words in all_lines if words]
        self.taken = 0
        self.many_rows = 0
        self.names = {}
        self.bounds = {"wide": (1, WIDEST), "goings": (0, MOST_GOINGS), "shift": (0, MOST_SHIFT)}

    def read_program(self):
        wide = self.number_behind(self.take_line_of("wide"), "wide")
        self.bounds["word"] = (0, (1 << wide) - 1)
        inputs = self.read_inputs()
        rows = self.read_rows(1, 0)
        if self.taken < len(self.lines):
            # Rows end ahead of an else or an end; here this closes nothing.
            self.taken += 1
            self.refuse(1)
        return (wide, inputs, rows)

    def read_inputs(self):
        words = self.take_line_of("in")
        if len(words) > MOST_INPUTS + 1 or not self.are_names(words):
            self.refuse_first_wrong(words, ("name",) * min(len(words) - 1, MOST_INPUTS))
        return tuple(words[1:])

    def read_rows(self, deep, rounds):
        """The ROWS from here on: so deep, and within so many rounds."""
        found = []
        lines = self.lines
        most = MOST_ROWS if deep <= MOST_WITHIN else 0
        while self.taken < len(lines):
            words = lines[self.taken]
            word = words[0]
            if word in CLOSING_WORDS:
                break
            self.taken += 1
            self.many_rows += 1
            if self.many_rows > most:
                self.refuse(1)
            if word == "set":
                found.append(self.read_set(words))
            elif word == "tell":
                found.append(("tell", self.name_behind(words)))
            elif word == "if":
                found.append(self.read_if(words, deep, rounds))
            elif word == "round" and rounds < MOST_ROUNDS_WITHIN:
                found.append(self.read_round(words, deep, rounds))
            else:
                self.refuse(1)
        return tuple(found)

    def read_set(self, words):
        kinds = EXPR_PARTS.get(words[2], ()) if len(words) > 2 else ()
        if kinds and len(words) == len(kinds) + 3:
            if kinds[-1] == "name":
                if self.are_names(words):
                    return ("set", words[1], tuple(words[2:]))
            else:
                number = self.number_of(words[-1], kinds[-1])
                if number is not None and self.are_names(words[:-1]):
                    return ("set", words[1], tuple(words[2:-1] + [number]))
        self.refuse_first_wrong(words, ("name", "expr") + kinds)

    def read_if(self, words, deep, rounds):
        name = self.name_behind(words)
        first = self.read_rows(deep + 1, rounds)
        self.take_closing("else")
        second = self.read_rows(deep + 1, rounds)
        self.take_closing("end")
        return ("if", name, first, second)

    def read_round(self, words, deep, rounds):
        goings = self.number_behind(words, "goings")
        rows = self.read_rows(deep + 1, rounds + 1)
        self.take_closing("end")
        return ("round", goings, rows)

    def take_line_of(self, word):
        """The words of the next line, which begins with that word."""
        if self.taken == len(self.lines):
            raise BadText(len(self.all_lines) + 1, 1)
        self.taken += 1
        words = self.lines[self.taken - 1]
        if words[0] != word:
            self.refuse(1)
        return words

    def take_closing(self, word):
        if len(self.take_line_of(word)) > 1:
            self.refuse(2)

    def name_behind(self, words):
        """The NAME that stands alone behind the first word."""
        if len(words) != 2 or not self.are_names(words):
            self.refuse_first_wrong(words, ("name",))
        return words[1]

    def number_behind(self, words, kind):
        """The number that stands alone behind the first word."""
        number = self.number_of(words[1], kind) if len(words) == 2 else None
        if number is None:
            self.refuse_first_wrong(words, (kind,))
        return number

    def number_of(self, word, kind):
        """The number that a word writes, None where it's none that can stand there."""
        number = number_in(word)
        least, most = self.bounds[kind]
        return number if number is not None and least <= number <= most else None

    def are_names(self, words):
        """Whether all words of a line are NAMES, as its first word and that of an EXPR always are."""
        known = self.names
        for word in words:
            if word not in known:
                if not is_name(word):
                    return False
                known[word] = True
        return True

    def refuse_first_wrong(self, words, kinds):
        """Refuses the first word that is not of its kind, one that lacks, or one too many."""
        for at, kind in enumerate(kinds):
            if at + 1 == len(words) or not self.fits(words[at + 1], kind):
                self.refuse(at + 2)
        self.refuse(len(kinds) + 2)

    def fits(self, word, kind):
        if kind == "name":
            return is_name(word)
        if kind == "expr":
            return word in EXPR_PARTS
        return self.number_of(word, kind) is not None

    def refuse(self, word):
        """Refuses that word of the line that was taken last."""
        numbers = [at + 1 for at, words in enumerate(self.all_lines) if words]
        raise BadText(numbers[self.taken - 1], word)
