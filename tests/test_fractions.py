"""Fractions: promise [4], and [2] as it holds for them."""

import math
import unittest
from fractions import Fraction

from fanglue.errors import NoFraction
from fanglue.fractions import are_neighbours, fraction, is_above, is_fraction
from things import NO_NUMBERS, OTHER_THINGS, Exact, whole_of

SMALL = range(-14, 15)
BIG = whole_of(300, 1)
OTHER_BIG = whole_of(300, 2)
TWELVE = 999999999999


def reckoned(p, q):
    """What the document asks of p over q, by Python's own fractions."""
    if q == 0:
        return (1, 0)
    ratio = Fraction(p, q)
    return (ratio.numerator, ratio.denominator)


def small_fractions():
    return sorted({reckoned(p, q) for p in SMALL for q in range(0, 9) if (p, q) != (0, 0)})


def height(one):
    """Compares as the fraction does; 1/0 above all others."""
    return (1, Fraction(0)) if one[1] == 0 else (0, Fraction(*one))


class IsFraction(Exact, unittest.TestCase):
    def test_all_small_pairs(self):
        for p in SMALL:
            for q in SMALL:
                due = (p, q) == (1, 0) or (q >= 1 and math.gcd(p, q) == 1)
                with self.subTest(p=p, q=q):
                    self.assert_told(is_fraction((p, q)), due)

    def test_one_over_nought_and_nought(self):
        for thing in [(1, 0), (0, 1), (1, 1), (-1, 1)]:
            self.assertIs(is_fraction(thing), True)

    def test_nought_below_is_1_0_alone(self):
        for p in [-1, 0, 2, -2, 3, 12, BIG, -BIG]:
            self.assertIs(is_fraction((p, 0)), False)

    def test_nought_above_is_0_1_alone(self):
        for q in [-1, 0, 2, -2, 12, BIG, -BIG]:
            self.assertIs(is_fraction((0, q)), False)

    def test_many_figures(self):
        for p, q in [(BIG, BIG + 1), (-BIG, BIG + 1), (BIG, 1), (-BIG, 1), (1, BIG), (-1, BIG),
                     (2 * BIG + 1, BIG), (10 ** 299 + 1, 10 ** 299), (TWELVE, TWELVE - 1)]:
            self.assertIs(is_fraction((p, q)), True)
            self.assertIs(is_fraction((p, -q)), False)
            self.assertIs(is_fraction((-p, -q)), False)

    def test_many_figures_with_a_common_part(self):
        part = whole_of(150, 3)
        for p, q in [(BIG, BIG), (2 * BIG, 2), (2, 2 * BIG), (3 * BIG, 3 * BIG + 3), (0, BIG),
                     (part * (part + 1), part), (-part * (part + 1), part * (part + 2)),
                     (10 ** 299, 5), (7 * BIG, 7 * OTHER_BIG)]:
            self.assertIs(is_fraction((p, q)), False)

    def test_chance_pairs_of_all_lengths(self):
        for figures in range(1, 301, 13):
            p, q = whole_of(figures, figures), whole_of(301 - figures, -figures)
            due = math.gcd(p, q) == 1
            self.assert_told(is_fraction((p, q)), due)
            self.assert_told(is_fraction((-p, q)), due)

    def test_other_things(self):
        for thing in OTHER_THINGS:
            with self.subTest(thing=thing):
                self.assertIs(is_fraction(thing), False)

    def test_what_is_no_number_in_a_number_s_place(self):
        for wrong in NO_NUMBERS:
            for number in [0, 1, 2, -1]:
                with self.subTest(wrong=wrong, number=number):
                    self.assertIs(is_fraction((wrong, number)), False)
                    self.assertIs(is_fraction((number, wrong)), False)
            self.assertIs(is_fraction((wrong, wrong)), False)

    def test_lists_and_other_lengths(self):
        for one in [(1, 0), (0, 1), (3, 5), (-3, 5)]:
            for thing in [list(one), one + (1,), one + (0,), (1,) + one, one[:1], (one,), [one], one + one]:
                with self.subTest(thing=thing):
                    self.assertIs(is_fraction(thing), False)

    def test_truths_after_the_numbers_that_equal_them(self):
        for ask in [(1, 0), (True, False), (1, False), (True, 0), (1, 0), (0, 1), (False, True),
                    (0, True), (False, 1), (0, 1), (1, 1), (True, True), (1, 1)]:
            due = type(ask[0]) is int and type(ask[1]) is int
            self.assert_told(is_fraction(ask), due)

    def test_nothing_is_changed(self):
        for thing in [[1, 0], [[1], [2]], ([1], [0]), [2, 4], (3, 5), (2, 4)]:
            self.assert_unchanged(is_fraction, thing)


class MadeFraction(Exact, unittest.TestCase):
    def test_all_small_pairs(self):
        for p in SMALL:
            for q in SMALL:
                if (p, q) != (0, 0):
                    with self.subTest(p=p, q=q):
                        self.assert_told(fraction(p, q), reckoned(p, q))

    def test_nought_below(self):
        for p in [1, -1, 2, -2, 12, -12, TWELVE, -TWELVE, BIG, -BIG]:
            self.assert_told(fraction(p, 0), (1, 0))

    def test_nought_above(self):
        for q in [1, -1, 2, -2, 12, -12, TWELVE, -TWELVE, BIG, -BIG]:
            self.assert_told(fraction(0, q), (0, 1))

    def test_signs(self):
        for p, q, due in [(6, 4, (3, 2)), (-6, 4, (-3, 2)), (6, -4, (-3, 2)), (-6, -4, (3, 2)),
                          (5, -1, (-5, 1)), (-5, -1, (5, 1)), (-3, 7, (-3, 7)), (3, -7, (-3, 7))]:
            self.assert_told(fraction(p, q), due)

    def test_many_figures(self):
        for p, q in [(TWELVE, 3), (TWELVE, -TWELVE), (TWELVE - 1, TWELVE), (BIG, OTHER_BIG),
                     (BIG * 6, BIG * 4), (BIG * OTHER_BIG, OTHER_BIG), (OTHER_BIG, BIG * OTHER_BIG),
                     (BIG, 10 ** 299), (BIG * 10, 10 ** 299)]:
            for above, below in [(p, q), (-p, q), (p, -q), (-p, -q)]:
                self.assert_told(fraction(above, below), reckoned(above, below))

    def test_made_of_its_own_numbers_it_is_itself(self):
        for one in small_fractions() + [(BIG, BIG + 1), (-BIG, BIG + 1)]:
            self.assert_told(fraction(*one), one)
            self.assert_told(fraction(-one[0], -one[1]), one)

    def test_what_is_made_is_a_fraction(self):
        for p in SMALL:
            for q in SMALL:
                if (p, q) != (0, 0):
                    self.assertIs(is_fraction(fraction(p, q)), True)

    def test_nought_over_nought_is_refused(self):
        self.assert_refused(NoFraction, fraction, 0, 0)
        fraction(0, 3)
        fraction(3, 0)
        self.assert_refused(NoFraction, fraction, 0, 0)


class Neighbours(Exact, unittest.TestCase):
    def test_all_small_ones_either_way_about(self):
        ones = small_fractions()
        for p, q in ones:
            for r, s in ones:
                due = p * s - q * r in (1, -1)
                self.assert_told(are_neighbours((p, q), (r, s)), due)

    def test_told_ones(self):
        for one, other in [((1, 0), (0, 1)), ((1, 0), (5, 1)), ((1, 0), (-5, 1)), ((0, 1), (1, 1)),
                           ((0, 1), (-1, 1)), ((1, 2), (1, 1)), ((1, 3), (1, 2)), ((-3, 2), (-1, 1)),
                           ((2, 5), (1, 2)), ((-2, 5), (-1, 2)), ((0, 1), (1, BIG)), ((BIG, 1), (1, 0)),
                           ((BIG, 1), (BIG + 1, 1)), ((BIG - 1, BIG), (BIG, BIG + 1))]:
            self.assertIs(are_neighbours(one, other), True)
            self.assertIs(are_neighbours(other, one), True)

    def test_others(self):
        for one, other in [((1, 0), (1, 2)), ((1, 0), (-1, 2)), ((0, 1), (2, 1)), ((0, 1), (-2, 3)),
                           ((-1, 1), (1, 1)), ((1, 2), (-1, 1)), ((1, 0), (BIG, 2 * BIG + 1)),
                           ((BIG, 1), (BIG + 2, 1)), ((BIG - 1, BIG), (BIG + 1, BIG + 2))]:
            self.assertIs(are_neighbours(one, other), False)
            self.assertIs(are_neighbours(other, one), False)

    def test_none_is_its_own_neighbour(self):
        for one in small_fractions() + [(BIG, BIG + 1)]:
            self.assertIs(are_neighbours(one, one), False)

    def test_nothing_is_changed(self):
        self.assert_unchanged(are_neighbours, (1, 2), (1, 3))


class Above(Exact, unittest.TestCase):
    def test_all_small_ones_either_way_about(self):
        ones = small_fractions()
        for one in ones:
            for other in ones:
                self.assert_told(is_above(one, other), height(one) > height(other))

    def test_1_0_is_above_all_others(self):
        for one in small_fractions() + [(BIG, 1), (-BIG, 1)]:
            self.assertIs(is_above((1, 0), one), one != (1, 0))
            self.assertIs(is_above(one, (1, 0)), False)

    def test_none_is_above_itself(self):
        for one in small_fractions() + [(BIG, BIG + 1)]:
            self.assertIs(is_above(one, one), False)

    def test_below_nought(self):
        for high, low in [((-1, 2), (-1, 1)), ((0, 1), (-1, 9)), ((1, 9), (-5, 1)), ((-3, 2), (-5, 3))]:
            self.assertIs(is_above(high, low), True)
            self.assertIs(is_above(low, high), False)

    def test_those_that_lie_close(self):
        for high, low in [((BIG, BIG + 1), (BIG - 1, BIG)), ((1, BIG), (1, BIG + 1)),
                          ((-1, BIG + 1), (-1, BIG)), ((BIG + 1, 1), (BIG, 1)), ((1, BIG), (0, 1)),
                          ((TWELVE, TWELVE - 1), (TWELVE + 1, TWELVE))]:
            self.assertIs(is_above(high, low), True)
            self.assertIs(is_above(low, high), False)

    def test_nothing_is_changed(self):
        self.assert_unchanged(is_above, (1, 2), (1, 3))


if __name__ == "__main__":
    unittest.main()
