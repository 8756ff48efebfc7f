"""Turnings sorted, and told alike in a fan's group."""

from fanglue.errors import NotIn
from fanglue.glues import plain_power, row_turning
from fanglue.reading import read
from fanglue.turnings import NOTHING, contrary, times

SORTS = {0: "half", 1: "third", 2: "end"}


def sort_of(one):
    """The sort of the turning."""
    if one == NOTHING:
        return "nothing"
    return SORTS.get(abs(one[0] + one[3]), "road")


def row_of(fan, one):
    """The short row of glues of which it is the turning."""
    kind, glues = read(fan, one)
    if kind == "out":
        raise NotIn("the turning is not of the fan's group")
    return glues


def rounded(fan, glues):
    """(row, tail) of a short row: the row is round, and the tail's contrary, the row and the tail are the short row."""
    row = glues
    tails = []
    while len(row) > 1 and row[0][0] == row[-1][0]:
        gap, power = row[-1]
        tails.append((gap, power))
        # The last one goes ahead of the first one, of the same gap: both are one power, or none.
        gap, power = plain_power(fan[1], gap, power + row[0][1])
        row = row[1:-1] if power == 0 else ((gap, power),) + row[1:-1]
    return (row, tuple(tails[::-1]))


def round_row(fan, one):
    """(glues, g): a round row, and a turning of the group that leads the row's turning to this one."""
    row, tail = rounded(fan, row_of(fan, one))
    return (row, row_turning(fan, tail))


def turned_about(row, other):
    """How many tuples go from ahead to behind to make the one row the other; None, where that never does."""
    for many in range(max(len(row), 1)):
        if row[many:] + row[:many] == other:
            return many
    return None


def alike_in(fan, one, other):
    """("alike", g), where g of the group leads the one to the other; else ("unlike", row, row), round rows of both."""
    row, one_tail = round_row(fan, one)
    other_row, other_tail = round_row(fan, other)
    many = turned_about(row, other_row)
    if many is None:
        return ("unlike", row, other_row)
    ahead = row_turning(fan, row[:many])
    return ("alike", times(times(contrary(one_tail), ahead), other_tail))
