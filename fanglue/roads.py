"""Roots, and the turnings that keep them."""

from fanglue.errors import NoRoot
from fanglue.fractions import common_part
from fanglue.places import place_along
from fanglue.turnings import NOTHING, contrary, power_of, times
from fanglue.wholes import are_wholes
from fanglue.words import letter_turning, word_of

MOST = 99


def under_root(root):
    """The number whose square root stands in the root."""
    a, b, c = root
    return b * b - 4 * a * c


def is_square(number):
    """Whether the number, from 0 on, is a square."""
    side = 0
    while side * side < number:
        side += 1
    return side * side == number


def is_root(thing):
    """Whether any thing is a root."""
    if not are_wholes(thing, 3) or max([abs(each) for each in thing]) > MOST:
        return False
    a, b, c = thing
    if a == 0 or common_part(common_part(a, b), c) > 1:
        return False
    return under_root(thing) > 0 and not is_square(under_root(thing))


def is_below(root, whole):
    """Whether the number for which the root stands is below the whole number."""
    a, b, c = root
    # (-b + w) / (2 a) is held against the whole number by holding w against this one.
    against = 2 * a * whole + b
    w_is_below = against > 0 and under_root(root) < against * against
    return w_is_below if a > 0 else not w_is_below


def letter_ahead(root):
    """The first letter of the word without end that leads to the root."""
    if is_below(root, 0):
        return "s"
    return "r" if is_below(root, 1) else "q"


def root_behind(root, letter):
    """The root that the letter's turning leads to this one."""
    a, b, c = root
    e, f, g, h = letter_turning(letter)
    return (a * e * e + b * e * g + c * g * g,
            2 * a * e * f + b * (e * h + f * g) + 2 * c * g * h,
            a * f * f + b * f * h + c * h * h)


def round_on_road(root):
    """The keeper: the word without end that leads to the root comes round, and one round is turned back to the root."""
    ones = {}
    one = NOTHING
    left = root
    while left not in ones:
        ones[left] = one
        letter = letter_ahead(left)
        one = times(one, letter_turning(letter))
        left = root_behind(left, letter)
    return times(one, contrary(ones[left]))


def keeper_and_word(root):
    """The keeper with its short word."""
    if not is_root(root):
        raise NoRoot("this is no root")
    one = round_on_road(root)
    return (one, word_of(one))


def keeper(root):
    """The turning of whose powers are all that keep the root."""
    return keeper_and_word(root)[0]


def kept(table, root):
    """(power, turning): the least power of the keeper that is of the table's group."""
    one, word = keeper_and_word(root)
    power = 1
    place = place_along(table, word)
    while place != 0:
        power += 1
        place = place_along(table, word, place)
    return (power, power_of(one, power))
