"""Whole numbers and names, and the words of a text."""

LONGEST_NAME = 8
MOST_FIGURES = 4


def is_whole(thing, least, most):
    """Whether anything is a whole number from least to most."""
    # Asked for exactly, so that True and False are none, and that nothing which
    # is handed in is ever asked to compare itself.
    return type(thing) is int and least <= thing <= most


def are_wholes(thing, many, most):
    """Whether anything is a tuple of so many whole numbers from 0 to the most one."""
    if type(thing) is not tuple or len(thing) != many:
        return False
    return all([is_whole(part, 0, most) for part in thing])


def is_name(thing):
    """Whether anything is a NAME."""
    if type(thing) is not str or not 1 <= len(thing) <= LONGEST_NAME:
        return False
    # All three: letters of other scripts can be small ones, too.
    return thing.isascii() and thing.isalpha() and thing.islower()


def are_names(things):
    """Whether all of these, of any kinds, are NAMES; none is looked at twice."""
    looked_at = set()
    for thing in things:
        if type(thing) is not str:
            return False
        if thing not in looked_at:
            if not is_name(thing):
                return False
            looked_at.add(thing)
    return True


def number_in(word):
    """The whole number that a text writes, None where it writes none."""
    figures = word.removeprefix("-")
    if not 1 <= len(figures) <= MOST_FIGURES:
        return None
    # Both: there are figures of other scripts, too.
    if not figures.isascii() or not figures.isdigit():
        return None
    if figures[0] == "0" and word != "0":
        return None
    return int(word)


def rows_of(text):
    """The rows of a text, each a list of its words."""
    found = []
    for line in text.split("\n"):
        # Split at blanks alone: split() would part words at other signs, too.
        words = line.split(" ") if line else []
        found.append([word for word in words if word] if "" in words else words)
    return found
