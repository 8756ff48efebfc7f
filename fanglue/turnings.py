"""Turnings (a, b, c, d) of the fractions."""

from fanglue.errors import NoTurning
from fanglue.fractions import upright
from fanglue.wholes import are_wholes

NOTHING = (1, 0, 0, 1)
HALF = (0, -1, 1, 0)
THIRD = (0, -1, 1, -1)


def is_turning(thing):
    """Whether any thing is a turning."""
    if not are_wholes(thing, 4):
        return False
    a, b, c, d = thing
    return a * d - b * c == 1 and (c > 0 or (c == 0 and d == 1))


def turning(a, b, c, d):
    """The turning made of four numbers, or of their contraries."""
    if a * d - b * c != 1:
        raise NoTurning("the determinant is not 1")
    if c < 0 or (c == 0 and d < 0):
        return (-a, -b, -c, -d)
    return (a, b, c, d)


def times(one, other):
    """The product, which leads as the second one and then the first one."""
    a, b, c, d = one
    e, f, g, h = other
    return turning(a * e + b * g, a * f + b * h, c * e + d * g, c * f + d * h)


def contrary(one):
    """The turning that undoes this one."""
    a, b, c, d = one
    return turning(d, -b, -c, a)


def power_of(one, power):
    """The product of so many of this one; of its contrary, where the power is below 0."""
    square = one if power >= 0 else contrary(one)
    left = abs(power)
    told = NOTHING
    while left > 0:
        if left % 2 == 1:
            told = times(told, square)
        square = times(square, square)
        left //= 2
    return told


def led(one, fraction):
    """The fraction to which the turning leads this one."""
    a, b, c, d = one
    p, q = fraction
    # Determinant 1 brings no common part in, so none is to be taken out.
    return upright(a * p + b * q, c * p + d * q)


def edge(one):
    """The two fractions to which the turning leads 1/0 and 0/1."""
    return (led(one, (1, 0)), led(one, (0, 1)))


def turning_between(one, other):
    """The turning that has these two neighbours, in this order, as its edge."""
    p, q = one
    r, s = other
    # The signs of a fraction are free, and just one choice has determinant 1.
    if p * s - q * r == -1:
        return turning(p, -r, q, -s)
    return turning(p, r, q, s)
