"""A desk: a program that is gone through by lines, each answered by a text."""

from bitneed.errors import BadAsked, BadInput, BadLine, BadPlace, BadWidths, TooMany
from bitneed.forms import need_place, need_program, set_places
from bitneed.fronts import facts_ahead
from bitneed.losing import loses
from bitneed.needs import needs
from bitneed.plain import made_plain
from bitneed.reading import program_in
from bitneed.rules import rewritten
from bitneed.running import narrowed, run
from bitneed.showing import program_text
from bitneed.truly import alone, together
from bitneed.trying import apart_by_widths
from bitneed.widths import widths
from bitneed.words import number_in, rows_of

# How many numbers stand behind the first word of each line, None where any do.
NUMBERS_BEHIND = {
    "program": 0,
    "run": None,
    "narrow": None,
    "facts": 1,
    "needs": 1,
    "behind": 1,
    "widths": 0,
    "loses": 0,
    "alone": 1,
    "together": 0,
    "apart": None,
    "plain": 0,
    "rule": 1,
    "back": 0,
}

# By these all that can be put in is run again and again, so their answers are
# kept as long as the same program stands there.
TRYING_WORDS = ("alone", "together")


class Desk:
    """A PROGRAM, those that stood there ahead of each telling, and answers that took long."""

    def __init__(self, text):
        self.program = program_in(text)
        need_program(self.program)
        self.before = []
        self.answers = {}

    def said(self, line):
        """The answer to a line."""
        if type(line) is not str:
            raise BadLine("this is no line")
        asked = _asked_in(line)
        if asked is None:
            return "bad line"
        try:
            return self.answer(asked)
        except BadInput:
            return "bad input"
        except BadPlace:
            return "bad place"
        except BadWidths:
            return "bad widths"
        except BadAsked:
            return "not asked"
        except TooMany:
            return "too many"

    def answer(self, asked):
        """The answer to (FIRST WORD, RULE, NUMBERS)."""
        word, rule, numbers = asked
        if word == "plain":
            return self.put_up(made_plain(self.program))
        if word == "rule":
            return self.put_up(rewritten(self.program, rule, numbers[0]))
        if word == "back":
            return self.go_back()
        action = ANSWER_BY_WORD[word]
        if word not in TRYING_WORDS:
            return action(self.program, numbers)
        if asked not in self.answers:
            self.answers[asked] = action(self.program, numbers)
        return self.answers[asked]

    def put_up(self, program):
        if program is None:
            return "no"
        self.before.append(self.program)
        self.program = program
        self.answers = {}
        return "done"

    def go_back(self):
        if not self.before:
            return "nothing"
        self.program = self.before.pop()
        self.answers = {}
        return "done"


def all_said(text, lines):
    """A list of the answers to a list of lines, at a desk made anew."""
    desk = Desk(text)
    return [desk.said(line) for line in lines]


def _asked_in(line):
    """(FIRST WORD, RULE, NUMBERS) of a line, None of a bad one."""
    rows = rows_of(line)
    if len(rows) > 1 or not rows[0] or rows[0][0] not in NUMBERS_BEHIND:
        return None
    word, *behind = rows[0]
    rule = ""
    if word == "rule":
        if not behind or not behind[0].isascii() or not behind[0].isalpha():
            return None
        rule, *behind = behind
    numbers = tuple([number_in(part) for part in behind])
    if None in numbers or NUMBERS_BEHIND[word] not in (None, len(numbers)):
        return None
    return (word, rule, numbers)


def _listed(parts, between):
    return between.join([str(part) for part in parts]) if parts else "none"


def _by_places(places, worths):
    return _listed([f"{place} {worth}" for place, worth in zip(places, worths)], ", ")


def _signs(wide, zeros, ones):
    """A sign for each bit, the highest first: 0 or 1, or ? where it is none of these."""
    signs = []
    for bit in reversed(range(wide)):
        if ones >> bit & 1:
            signs.append("1")
        else:
            signs.append("0" if zeros >> bit & 1 else "?")
    return "".join(signs)


def _needed_signs(wide, needed):
    return _listed([f"{name} {_signs(wide, ~bits, bits)}" for name, bits in needed], ", ")


# The answers to lines that change nothing, all asked alike: by the PROGRAM and
# the numbers behind the first word.

def _program_told(program, numbers):
    return program_text(program).replace("\n", " ; ")


def _run_told(program, numbers):
    told, lost = run(program, numbers)
    telling, losing = _listed(told, " "), _listed(lost, " ")
    return f"{telling}, lost {losing}"


def _narrow_told(program, numbers):
    return _listed(narrowed(program, widths(program), numbers), " ")


def _facts_told(program, numbers):
    need_place(program, numbers[0])
    facts = facts_ahead(program)[numbers[0]]
    if facts is None:
        return "not come to"
    return _listed([f"{name} {_signs(program[0], zeros, ones)}" for name, zeros, ones in facts], ", ")


def _needs_told(program, numbers):
    need_place(program, numbers[0])
    ahead, _ = needs(program)[numbers[0]]
    return _needed_signs(program[0], ahead)


def _behind_told(program, numbers):
    need_place(program, numbers[0])
    _, behind = needs(program)[numbers[0]]
    return _needed_signs(program[0], behind)


def _widths_told(program, numbers):
    return _by_places(set_places(program), widths(program))


def _loses_told(program, numbers):
    told = loses(program)
    places = [place for place, word in enumerate(told) if word != "none"]
    return _by_places(places, [told[place] for place in places])


def _alone_told(program, numbers):
    return str(alone(program, numbers[0]))


def _together_told(program, numbers):
    return _by_places(set_places(program), together(program))


def _apart_told(program, numbers):
    words = apart_by_widths(program, numbers)
    if words is None:
        return "none"
    return _listed(words, " ") if words else "all"


ANSWER_BY_WORD = {
    "program": _program_told,
    "run": _run_told,
    "narrow": _narrow_told,
    "facts": _facts_told,
    "needs": _needs_told,
    "behind": _behind_told,
    "widths": _widths_told,
    "loses": _loses_told,
    "alone": _alone_told,
    "together": _together_told,
    "apart": _apart_told,
}
