"""Fans: round rows of fractions, with marks at the gaps between them."""

from fanglue.errors import NoFan
from fanglue.fractions import are_neighbours, is_above, is_fraction
from fanglue.turnings import turning_between
from fanglue.wholes import are_two_tuples, is_whole

MOST_FRACTIONS = 22
MOST_PLACES = 60
TOP = (1, 0)
NOUGHT = (0, 1)


def is_due_fraction(fractions, at):
    """Whether the thing there is as a fan asks for it, where those ahead are."""
    one = fractions[at]
    if not is_fraction(one):
        return False
    if at == 0:
        return one == TOP
    ahead = fractions[at - 1]
    if one == TOP or not are_neighbours(one, ahead):
        return False
    # Nothing is above 1/0: the others rise among themselves.
    if at > 1 and not is_above(one, ahead):
        return False
    return at < len(fractions) - 1 or are_neighbours(one, TOP)


def is_due_mark(marks, gap):
    """Whether the thing there is a mark as a fan asks for it."""
    mark = marks[gap]
    if mark == "half" or mark == "third":
        return True
    if not is_whole(mark) or mark == gap or not 0 <= mark < len(marks):
        return False
    # True equals 1, and is no number of a gap.
    return is_whole(marks[mark]) and marks[mark] == gap


def many_places(fan):
    """How many places the fan has."""
    fractions, marks = fan
    return 3 * (len(fractions) - 2) + marks.count("third")


def look(thing):
    """None, where any thing is a fan."""
    if not are_two_tuples(thing):
        raise NoFan("fan")
    fractions, marks = thing
    if not 2 <= len(fractions) <= MOST_FRACTIONS:
        raise NoFan("many")
    for at in range(len(fractions)):
        if not is_due_fraction(fractions, at):
            raise NoFan("fraction", at)
    if NOUGHT not in fractions:
        raise NoFan("nought")
    if len(marks) != len(fractions):
        raise NoFan("marks")
    for gap in range(len(marks)):
        if not is_due_mark(marks, gap):
            raise NoFan("mark", gap)
    if not 1 <= many_places(thing) <= MOST_PLACES:
        raise NoFan("places")


def is_fan(thing):
    """Whether any thing is a fan."""
    try:
        look(thing)
    except NoFan:
        return False
    return True


def gap_turning(fan, gap):
    """The turning that has the gap's edge as its edge."""
    fractions = fan[0]
    behind = fractions[gap + 1] if gap + 1 < len(fractions) else TOP
    return turning_between(fractions[gap], behind)
