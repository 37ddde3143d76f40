"""Oracles of papers: each place by itself, by what is taken alone, whatever was made elsewhere."""

from bitneed.bits import common_facts, expr_facts, first_facts, ways_of
from bitneed.forms import names_at, places_of
from tests.kit import TELL_A, copy, number, size_of
from tests.test_fronts import Flow
from tests.test_needs import Rules

WAYS = (
    ("set", "m", ("number", 3)), ("set", "x", ("and", "a", "m")),
    ("if", "x", (copy("y", "x"), ("set", "z", ("up", "y", 1))), (number("y", 1), number("z", 2))),
    ("if", "m", (copy("y", "y"),), (("tell", "b"),)),
    ("if", "y", (copy("d", "a"), ("if", "d", (number("d", 1),), ())), (number("d", 0),)),
    ("round", 2, (("set", "a", ("or", "a", "z")), copy("z", "x"))),
    ("round", 0, (TELL_A,)), ("round", 3, ()), ("if", "b", (), ()),
    TELL_A, ("tell", "z"),
)

# Ifs decided and not, an idle one with rows within, rounds, those of 0 and without rows.
SMALL = (2, ("a", "b"), WAYS)


def is_form_of_facts(program, paper):
    """Whether it's a tuple, for each place, of facts of just the names that are there, or None."""
    if type(paper) is not tuple or len(paper) != len(places_of(program)):
        return False
    for place, part in enumerate(paper):
        if part is None:
            continue
        if type(part) is not tuple or any(type(one) is not tuple or len(one) != 3 for one in part):
            return False
        if any(type(one[0]) is not str for one in part):
            return False
        if [one[0] for one in part] != names_at(program, place):
            return False
        for _, zeros, ones in part:
            for bits in (zeros, ones):
                if type(bits) is not int or bits not in range(2 ** program[0]):
                    return False
            if zeros & ones:
                return False
    return True


class FactsRules:
    """What single rules make of what is taken, and where it isn't right."""

    def __init__(self, program, paper):
        self.wide = program[0]
        self.taken = [part if part is None else {name: tuple(facts) for name, *facts in part}
                      for part in paper]
        self.wrong = []
        self.come_to = set()
        self.block(program[2], 0, {name: (0, 0) for name in program[1]})
        for place, taken in enumerate(self.taken):
            if place not in self.come_to and taken is not None:
                self.wrong.append(place)

    def block(self, rows, place, made):
        """Looks at the rows, of which the first has that made ahead; tells what is made at their end."""
        for row in rows:
            self.come_to.add(place)
            if self.taken[place] is None:
                self.wrong.append(place)
                return made
            self.need_made(place, made)
            made = self.behind(row, place)
            if made is None:
                return {}
            place += size_of(row)
        return made

    def need_made(self, place, made):
        for name, (zeros, ones) in self.taken[place].items():
            if name not in made or zeros & ~made[name][0] or ones & ~made[name][1]:
                self.wrong.append(place)

    def behind(self, row, place):
        taken = self.taken[place]
        if row[0] == "tell":
            return taken
        if row[0] == "set":
            return {**taken, row[1]: expr_facts(self.wide, row[2], taken)}
        if row[0] == "round":
            if row[1] == 0:
                return taken
            end = self.block(row[2], place + 1, taken)
            if row[2] and self.taken[place + 1] is not None:
                self.need_made(place + 1, end)
            return end
        zero = {**taken, row[1]: (2 ** self.wide - 1, 0)}
        ends = []
        to_first, to_second = ways_of(self.wide, taken[row[1]])
        if to_first:
            lone = {**taken, row[1]: first_facts(self.wide, taken[row[1]])}
            ends.append(self.block(row[2], place + 1, lone))
        if to_second:
            ends.append(self.block(row[3], place + 1 + sum(map(size_of, row[2])), zero))
        # Which names are there behind it is looked at where they are taken.
        return {name: common_facts(ends[0][name], ends[-1][name])
                for name in ends[0] if name in ends[-1]}


def are_facts_right(program, paper):
    return is_form_of_facts(program, paper) and not FactsRules(program, paper).wrong


def weaker_facts(program, chance):
    """A right paper of facts, of which some bits are left at some places and all that follows of them."""
    some = {(place, name): chance.randrange(2 ** program[0])
            for place in range(len(places_of(program))) for name in names_at(program, place)
            if chance.random() < 0.3}
    flow = Flow(program, some)
    return tuple(flow.told(place) for place in range(len(places_of(program))))


def more_needs(program, facts, chance):
    """A right paper of needs beside those facts, with some bits more, and all that follows of them."""
    taken = [{(name, chance.randrange(program[0])) for name in names_at(program, place)
              if facts[place] is not None and chance.random() < 0.1}
             for place in range(len(facts))]
    rules = Rules(program, facts, taken)
    return tuple(rules.told(part) for part in rules.ahead)


class NeedsRules(Rules):
    """What single rules make of the needs that are taken, place by place."""

    def __init__(self, program, facts, taken):
        self.program = program
        self.wide = program[0]
        self.facts = [part and {name: (zeros, ones) for name, zeros, ones in part} for part in facts]
        self.paper = [{(name, bit) for name, bits in part for bit in range(self.wide)
                       if bits >> bit & 1} for part in taken]
        self.wrong = []
        self.look_at(program[2], 0, set())

    def take(self, rows, place, end):
        return self.paper[place] if rows else end

    def look_at(self, rows, place, end):
        if not rows or self.facts[place] is None:
            return
        places = []
        for row in rows:
            places.append(place)
            place += size_of(row)
        for at, row in enumerate(rows):
            behind = self.paper[places[at + 1]] if at + 1 < len(rows) else end
            if not self.row(row, places[at], behind) <= self.paper[places[at]]:
                self.wrong.append(places[at])
            if row[0] == "round":
                first = self.take(row[2], places[at] + 1, behind)
                self.look_at(row[2], places[at] + 1, behind | first)
            elif row[0] == "if":
                self.look_at(row[2], places[at] + 1, behind)
                self.look_at(row[3], places[at] + 1 + sum(map(size_of, row[2])), behind)


def is_form_of_needs(program, facts, paper):
    if type(paper) is not tuple or len(paper) != len(places_of(program)):
        return False
    for place, part in enumerate(paper):
        if type(part) is not tuple or (facts[place] is None and part):
            return False
        if any(type(one) is not tuple or len(one) != 2 or type(one[0]) is not str for one in part):
            return False
        names = [one[0] for one in part]
        if names != sorted(set(names)) or not set(names) <= set(names_at(program, place)):
            return False
        if any(type(bits) is not int or bits not in range(1, 2 ** program[0]) for _, bits in part):
            return False
    return True


def are_needs_right(program, facts, paper):
    return (is_form_of_needs(program, facts, paper)
            and not NeedsRules(program, facts, paper).wrong)
