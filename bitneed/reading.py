"""Texts read as programs, line by line and word by word."""

from bitneed.errors import BadText
from bitneed.forms import (EXPR_PARTS, MOST_GOINGS, MOST_INPUTS, MOST_ROUNDS_WITHIN, MOST_ROWS,
                           MOST_SHIFT, MOST_WITHIN, WIDEST)
from bitneed.words import is_name, number_in, rows_of

ROW_WORDS = ("set", "tell", "if", "round")
CLOSING_WORDS = ("else", "end")


def program_in(text):
    """The PROGRAM that a text tells, right by its form."""
    if type(text) is not str:
        raise BadText(0, 0)
    return Text(rows_of(text)).read_program()


class Line:
    """A line with words, which are taken one by one from the left."""

    def __init__(self, line, words):
        self.line = line
        self.words = words
        self.taken = 0

    def take_word(self):
        self.taken += 1
        if self.taken > len(self.words):
            raise BadText(self.line, self.taken)
        return self.words[self.taken - 1]

    def take_one_of(self, wanted):
        word = self.take_word()
        if word not in wanted:
            raise BadText(self.line, self.taken)
        return word

    def take_name(self):
        word = self.take_word()
        if not is_name(word):
            raise BadText(self.line, self.taken)
        return word

    def take_number(self, least, most):
        number = number_in(self.take_word())
        if number is None or not least <= number <= most:
            raise BadText(self.line, self.taken)
        return number

    def has_more(self):
        return self.taken < len(self.words)

    def close(self):
        """Refuses a word too many."""
        if self.has_more():
            raise BadText(self.line, self.taken + 1)


class Text:
    """The lines of a text that have words, which are taken one by one from above."""

    def __init__(self, rows):
        self.lines = [Line(at + 1, words) for at, words in enumerate(rows) if words]
        self.line_behind = len(rows) + 1
        self.taken = 0
        self.wide = 0
        self.many_rows = 0

    def take_line(self):
        if self.taken == len(self.lines):
            raise BadText(self.line_behind, 1)
        self.taken += 1
        return self.lines[self.taken - 1]

    def take_closing(self, word):
        line = self.take_line()
        line.take_one_of((word,))
        line.close()

    def read_program(self):
        self.wide = self.read_wide()
        inputs = self.read_inputs()
        rows = self.read_rows(1, 0)
        if self.taken < len(self.lines):
            # Rows end ahead of an else or an end; here this closes nothing.
            raise BadText(self.lines[self.taken].line, 1)
        return (self.wide, inputs, rows)

    def read_wide(self):
        line = self.take_line()
        line.take_one_of(("wide",))
        wide = line.take_number(1, WIDEST)
        line.close()
        return wide

    def read_inputs(self):
        line = self.take_line()
        line.take_one_of(("in",))
        inputs = []
        while line.has_more() and len(inputs) < MOST_INPUTS:
            inputs.append(line.take_name())
        line.close()
        return tuple(inputs)

    def read_rows(self, deep, rounds):
        """The ROWS from here on: so deep, and within so many rounds."""
        rows = []
        while self.taken < len(self.lines) and self.lines[self.taken].words[0] not in CLOSING_WORDS:
            rows.append(self.read_row(deep, rounds))
        return tuple(rows)

    def read_row(self, deep, rounds):
        line = self.take_line()
        word = line.take_one_of(ROW_WORDS)
        self.many_rows += 1
        if word == "round":
            rounds += 1
        if self.many_rows > MOST_ROWS or deep > MOST_WITHIN or rounds > MOST_ROUNDS_WITHIN:
            raise BadText(line.line, 1)
        if word == "set":
            return self.read_set(line)
        if word == "tell":
            return self.read_tell(line)
        if word == "if":
            return self.read_if(line, deep, rounds)
        return self.read_round(line, deep, rounds)

    def read_set(self, line):
        name = line.take_name()
        word = line.take_one_of(list(EXPR_PARTS))
        parts = [self.read_part(line, kind) for kind in EXPR_PARTS[word]]
        line.close()
        return ("set", name, (word, *parts))

    def read_part(self, line, kind):
        if kind == "name":
            return line.take_name()
        most = (1 << self.wide) - 1 if kind == "word" else MOST_SHIFT
        return line.take_number(0, most)

    def read_tell(self, line):
        name = line.take_name()
        line.close()
        return ("tell", name)

    def read_if(self, line, deep, rounds):
        name = line.take_name()
        line.close()
        first = self.read_rows(deep + 1, rounds)
        self.take_closing("else")
        second = self.read_rows(deep + 1, rounds)
        self.take_closing("end")
        return ("if", name, first, second)

    def read_round(self, line, deep, rounds):
        goings = line.take_number(0, MOST_GOINGS)
        line.close()
        rows = self.read_rows(deep + 1, rounds)
        self.take_closing("end")
        return ("round", goings, rows)
