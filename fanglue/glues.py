"""The turnings that glue a fan's gaps, and rows of them."""

from fanglue.fans import gap_turning
from fanglue.turnings import NOTHING, contrary, power_of, times
from fanglue.wholes import is_whole
from fanglue.words import turning_of


def glue(fan, gap):
    """The turning that glues the gap to itself, or to the gap of its mark."""
    mark = fan[1][gap]
    here = gap_turning(fan, gap)
    there = gap_turning(fan, mark) if is_whole(mark) else here
    across = turning_of("srs" if mark == "third" else "s")
    return times(times(there, across), contrary(here))


def row_turning(fan, glues):
    """The product of the powers of the gaps' glues, in order."""
    one = NOTHING
    for gap, power in glues:
        one = times(one, power_of(glue(fan, gap), power))
    return one


def plain_power(marks, gap, power):
    """The same power as a short row has it: of the lesser gap of two, least where powers come round; 0 of nothing."""
    mark = marks[gap]
    if mark == "half":
        return (gap, power % 2)
    if mark == "third":
        return (gap, power % 3)
    if mark < gap:
        return (mark, -power)
    return (gap, power)


def short_row(fan, glues):
    """The short row with the same turning."""
    row = []
    for gap, power in glues:
        lesser, left = plain_power(fan[1], gap, power)
        if row and row[-1][0] == lesser:
            lesser, left = plain_power(fan[1], lesser, left + row.pop()[1])
        if left != 0:
            row.append((lesser, left))
    return tuple(row)


def is_short_row(fan, glues):
    """Whether the row of glues is short."""
    # No other short row has the same turning, so shortening leaves just the short ones as they are.
    return short_row(fan, glues) == glues
