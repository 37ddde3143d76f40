"""Papers: facts and needs that are taken at each place, and whether single rules make them so.

A paper is looked at in one going through: each row goes by what is taken, not
by what was made, so that nothing need be gone through again.
"""

from bitneed.bits import is_facts
from bitneed.errors import BadPaper
from bitneed.forms import need_program, places_of
from bitneed.fronts import Front, facts_ahead
from bitneed.needs import Back, gone_back, names_rising, with_more
from bitneed.placed import placed_rows
from bitneed.widths import widths_by
from bitneed.words import is_whole


def facts_paper(program):
    """The FACTS ahead of each place, as a paper."""
    return facts_ahead(program)


def needs_paper(program):
    """The NEEDS ahead of each place, as a paper beside that of the facts."""
    need_program(program)
    back, _ = gone_back(program)
    return tuple([names_rising(needed) for needed in back.ahead])


def check_facts(program, paper):
    """None; refuses a PAPER OF FACTS that isn't right."""
    need_program(program)
    _facts_taken(program, paper)


def check_needs(program, facts, needs):
    """None; refuses papers that aren't right, that of facts first."""
    need_program(program)
    _needs_taken(program, _facts_taken(program, facts), needs)


def paper_widths(program, facts, needs):
    """The WIDTHS by two right papers."""
    rows = places_of(program)
    taken = _facts_taken(program, facts)
    back = _needs_taken(program, taken, needs)
    return widths_by(program[0], rows, taken, back.behind)


def _facts_taken(program, paper):
    """For each place a dict of the facts that a right paper takes, or None."""
    rows, many = placed_rows(program)
    if type(paper) is not tuple or len(paper) != many:
        raise BadPaper("this is no paper of as many places")
    front = FactsTaken(program[0], paper)
    front.go_through(rows, {name: (0, 0) for name in program[1]})
    for taken, part in zip(front.ahead, paper):
        if taken is None and part is not None:
            raise BadPaper("facts are taken at a place that isn't come to")
    return front.ahead


def _needs_taken(program, facts, paper):
    """A going back through the program by the needs that a right paper takes."""
    rows, many = placed_rows(program)
    if type(paper) is not tuple or len(paper) != many:
        raise BadPaper("this is no paper of as many places")
    taken = [_needs_in(program[0], part, ahead) for part, ahead in zip(paper, facts)]
    back = NeedsTaken(program[0], facts, taken)
    back.go_back(rows, {})
    return back


class FactsTaken(Front):
    """A going through from in front by the facts of a paper, which are refused where they aren't made."""

    def __init__(self, wide, paper):
        Front.__init__(self, wide, len(paper))
        self.paper = paper

    def note_ahead(self, place, facts):
        taken = _facts_in(self.wide, self.paper[place], sorted(facts))
        _need_made(taken, facts)
        self.ahead[place] = taken
        return taken

    def behind_round(self, place, rows, facts):
        end = self.go_through(rows, facts)
        if rows:
            _need_made(self.ahead[place + 1], end)
        return end


class NeedsTaken(Back):
    """A going through from behind by the needs of a paper, which is refused where it lacks some."""

    def __init__(self, wide, facts, taken):
        Back.__init__(self, wide, facts, len(taken))
        self.taken = taken

    def note_ahead(self, place, needed):
        taken = self.taken[place]
        for name in needed:
            if needed[name] & ~taken.get(name, 0) != 0:
                raise BadPaper("a bit that is needed isn't taken")
        return taken

    def ahead_of_round(self, place, rows, behind):
        if not rows:
            return behind
        return self.go_back(rows, with_more(behind, list(self.taken[place + 1].items())))


def _facts_in(wide, part, names):
    """A dict of the facts in a part of a paper, which is refused if they aren't of just these names."""
    if type(part) is not tuple or len(part) != len(names):
        raise BadPaper("these are no facts of the names that are there")
    taken = {}
    for one, name in zip(part, names):
        if type(one) is not tuple or len(one) != 3 or type(one[0]) is not str or one[0] != name:
            raise BadPaper("these are no facts of the names that are there")
        if not is_facts(wide, one[1:]):
            raise BadPaper("these are no facts of a word")
        taken[name] = one[1:]
    return taken


def _need_made(taken, made):
    """Refuses facts that are taken and not made."""
    for name in taken:
        zeros, ones = made[name]
        if taken[name][0] & ~zeros != 0 or taken[name][1] & ~ones != 0:
            raise BadPaper("a bit is taken that isn't made")


def _needs_in(wide, part, facts):
    """A dict of the needs in a part of a paper, of names that have facts there."""
    if type(part) is not tuple or (facts is None and part):
        raise BadPaper("these are no needs of names")
    taken = {}
    before = ""
    for one in part:
        if type(one) is not tuple or len(one) != 2 or type(one[0]) is not str:
            raise BadPaper("these are no needs of names")
        name, bits = one
        if name not in facts or name <= before or not is_whole(bits, 1, (1 << wide) - 1):
            raise BadPaper("these are no needs of names that are there, rising")
        taken[name] = bits
        before = name
    return taken
