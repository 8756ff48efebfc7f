"""Fractions (p, q), 1/0 among them."""

from fanglue.errors import NoFraction
from fanglue.wholes import are_wholes


def common_part(p, q):
    """The greatest number that divides both; 0 of 0 and 0."""
    high = abs(p)
    low = abs(q)
    while low != 0:
        high, low = low, high % low
    return high


def upright(p, q):
    """The fraction p over q, of two numbers without a common part."""
    if q < 0 or (q == 0 and p < 0):
        return (-p, -q)
    return (p, q)


def is_fraction(thing):
    """Whether any thing is a fraction."""
    if not are_wholes(thing, 2):
        return False
    p, q = thing
    return common_part(p, q) == 1 and upright(p, q) == (p, q)


def fraction(p, q):
    """The fraction made of p over q."""
    if p == 0 and q == 0:
        raise NoFraction("0 over 0 is no fraction")
    part = common_part(p, q)
    return upright(p // part, q // part)


def are_neighbours(one, other):
    """Whether two fractions are neighbours."""
    p, q = one
    r, s = other
    return abs(p * s - q * r) == 1


def is_above(one, other):
    """Whether the first fraction is above the second one."""
    p, q = one
    r, s = other
    # No lower number is below 0, so this holds with 1/0 on either side, too.
    return p * s > r * q
