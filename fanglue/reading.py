"""Turnings read along a fan, as rows of glues."""

from fanglue.glues import short_row
from fanglue.places import Walk, place_along, table_of
from fanglue.turnings import HALF, NOTHING, THIRD, times
from fanglue.words import word_of


def read(fan, one):
    """("in", glues), the short row whose turning it is, or ("out", place), where it is not of the fan's group."""
    word = word_of(one)
    walk = Walk(fan)
    ahead, first = walk.settled(NOTHING)
    row = list(ahead)
    stand = first
    for letter in word.replace("q", "rr"):
        crossed, stand = walk.settled(times(stand, HALF if letter == "s" else THIRD))
        row.extend(crossed)
    if stand != first:
        return ("out", place_along(table_of(fan), word))
    # The place of nothing may be stood for by another turning: what led there is taken back at the end.
    row.extend([(gap, -power) for gap, power in ahead])
    return ("in", short_row(fan, tuple(row)))
