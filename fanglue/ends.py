"""The ends of a table, its half and third points, and its holes."""

from fanglue.errors import TooLong
from fanglue.fans import TOP
from fanglue.places import place_along
from fanglue.turnings import contrary, led, times
from fanglue.wholes import is_whole
from fanglue.words import MOST_LETTERS, letter_turning, turning_of


def round_from(table, place):
    """The places of the round in which this one lies, from it on."""
    halves, thirds = table
    met = [place]
    behind = thirds[halves[place]]
    while behind != place:
        met.append(behind)
        behind = thirds[halves[behind]]
    return met


def ends(table):
    """Each end as a tuple (width, place), the least place of its round, rising by place."""
    told = []
    taken = {}
    for place in range(len(table[0])):
        if place not in taken:
            met = round_from(table, place)
            taken.update({each: True for each in met})
            told.append((len(met), place))
    return told


def kept_places(leads):
    """The places that are led to themselves."""
    return [place for place, behind in enumerate(leads) if behind == place]


def half_points(table):
    """The places from which s leads to itself."""
    return kept_places(table[0])


def third_points(table):
    """The places from which r leads to itself."""
    return kept_places(table[1])


def holes(table):
    """The holes, reckoned by places, points and ends."""
    points = 3 * len(half_points(table)) + 4 * len(third_points(table))
    return (12 + len(table[0]) - points - 6 * len(ends(table))) // 12


def glued_pairs(fan):
    """How many pairs of gaps are glued to one another."""
    return len([mark for mark in fan[1] if is_whole(mark)]) // 2


def letter_towards(fraction):
    """The first letter of the shortest word that leads 1/0 to the fraction, another than 1/0."""
    # Words with s ahead lead 1/0 to below 0 or to 0, with r ahead from 0 to 1, with q ahead to 1 or above.
    p, q = fraction
    if p <= 0:
        return "s"
    return "r" if p < q else "q"


def word_towards(fraction):
    """The shortest word that leads 1/0 to the fraction."""
    letters = []
    left = fraction
    while left != TOP:
        if len(letters) == MOST_LETTERS:
            raise TooLong("each word that leads there has more letters")
        letters.append(letter_towards(left))
        left = led(contrary(letter_turning(letters[-1])), left)
    return "".join(letters)


def end_of(table, fraction):
    """(width, turning): the width of the fraction's end, and the one step along it that is of the group."""
    word = word_towards(fraction)
    width = len(round_from(table, place_along(table, word)))
    one = turning_of(word)
    return (width, times(times(one, (1, width, 0, 1)), contrary(one)))
