"""FACTS told from in front: what is known of each name ahead of each place."""

from bitneed.bits import common_facts, first_facts, made_facts, ways_of
from bitneed.forms import names_set, need_program
from bitneed.placed import placed_rows


def facts_ahead(program):
    """For each place a tuple of (NAME, ZEROS, ONES), None where it isn't come to."""
    need_program(program)
    return tuple([_in_order(facts) for facts in facts_by_places(program)])


def _in_order(facts):
    if facts is None:
        return None
    return tuple([(name,) + facts[name] for name in sorted(facts)])


def facts_by_places(program):
    """A list with a dict of FACTS by names for each place of a sound program, or None."""
    rows, many = placed_rows(program)
    front = Front(program[0], many)
    front.go_through(rows, {name: (0, 0) for name in program[1]})
    return front.ahead


class Front:
    """A going through rows from in front. A dict of facts is never changed once it is told."""

    def __init__(self, wide, many):
        self.wide = wide
        self.ahead = [None] * many
        self.begun = {}

    def go_through(self, rows, facts):
        """The facts at the end of rows that begin with these."""
        for place, row, ways in rows:
            facts = self.note_ahead(place, facts)
            if row[0] == "set":
                facts = _with_name(facts, row[1], made_facts(self.wide, row[2], facts))
            elif row[0] == "if":
                facts = self.behind_if(row, ways, facts)
            elif row[0] == "round" and row[1] > 0:
                facts = self.behind_round(place, ways[0], facts)
        return facts

    def note_ahead(self, place, facts):
        """The facts by which the row is gone through: these, unless others are taken."""
        self.ahead[place] = facts
        return facts

    def behind_if(self, row, ways, facts):
        name = row[1]
        to_first, to_second = ways_of(self.wide, facts[name])
        first = second = None
        if to_first:
            begin = _with_name(facts, name, first_facts(self.wide, facts[name]))
            first = self.go_through(ways[0], begin)
        if to_second:
            begin = _with_name(facts, name, ((1 << self.wide) - 1, 0))
            second = self.go_through(ways[1], begin)
        if first is None:
            return _of_names_there(second, facts, names_set(row[2]))
        if second is None:
            return _of_names_there(first, facts, names_set(row[3]))
        return _in_common(first, second)

    def behind_round(self, place, rows, facts):
        # What is known at the beginning only grows less from one going through
        # to the next, also where a round around this one comes back to it.
        begin = _in_common(self.begun[place], facts) if place in self.begun else facts
        end = self.go_through(rows, begin)
        held = _in_common(begin, end)
        while held != begin:
            begin = held
            end = self.go_through(rows, begin)
            held = _in_common(begin, end)
        self.begun[place] = begin
        return end


def _with_name(facts, name, worth):
    changed = dict(facts)
    changed[name] = worth
    return changed


def _of_names_there(end, ahead, other_names):
    """Those at the one end that is come to, of the names that the other end has, too."""
    return {name: end[name] for name in end if name in ahead or name in other_names}


def _in_common(one, other):
    """What both know of the names that both have."""
    return {name: common_facts(one[name], other[name]) for name in one if name in other}
