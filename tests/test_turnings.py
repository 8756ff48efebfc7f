"""Turnings and their edges: promises [5] and [6], and [2] as it holds for them."""

import itertools
import unittest

from fanglue.errors import NoTurning
from fanglue.fractions import are_neighbours, fraction, is_fraction
from fanglue.turnings import (
    contrary, edge, is_turning, led, power_of, times, turning, turning_between)
from reckoned import HALF, NOTHING, THIRD, product, undone, upright
from things import NO_NUMBERS, OTHER_THINGS, Exact, whole_of

SMALL = range(-4, 5)
BIG = whole_of(300, 11)


def quadruples():
    return itertools.product(SMALL, repeat=4)


def determinant(a, b, c, d):
    return a * d - b * c


def small_turnings():
    return sorted({upright(*four) for four in quadruples() if determinant(*four) == 1})


def grown(steps):
    """A turning with these steps from edge to edge: of any figures, reckoned here."""
    one = NOTHING
    for step in steps:
        one = product(one, (step, -1, 1, 0))
    return one


BIG_TURNINGS = [
    (1, BIG, 0, 1), (1, -BIG, 0, 1), (1, 0, BIG, 1), (BIG, -1, 1, 0), (0, -1, 1, BIG),
    (BIG + 1, BIG, 1, 1), (1 - BIG, -BIG, 1, 1),
    grown([whole_of(100, 21), -whole_of(100, 22), whole_of(99, 23)]),
    grown([-whole_of(60, seed) for seed in range(31, 36)]),
    grown([whole_of(3, seed) for seed in range(41, 140)]),
]
SOME = small_turnings()[::7] + [NOTHING, HALF, THIRD] + BIG_TURNINGS
FRACTIONS = [(1, 0), (0, 1), (1, 1), (-1, 1), (3, 2), (-3, 2), (2, 5), (-7, 4), (12, 1), (-12, 1),
             (1, 12), (BIG, BIG + 1), (-BIG, 1)]


class IsTurning(Exact, unittest.TestCase):
    def test_all_small_quadruples(self):
        for a, b, c, d in quadruples():
            due = a * d - b * c == 1 and (c > 0 or (c == 0 and d == 1))
            self.assert_told(is_turning((a, b, c, d)), due)

    def test_third_number_nought(self):
        for b in [0, 1, -1, 7, BIG, -BIG]:
            self.assertIs(is_turning((1, b, 0, 1)), True)
            self.assertIs(is_turning((-1, b, 0, -1)), False)
            self.assertIs(is_turning((1, b, 0, -1)), False)
            self.assertIs(is_turning((-1, b, 0, 1)), False)

    def test_all_signs_turned(self):
        for a, b, c, d in SOME:
            self.assertIs(is_turning((a, b, c, d)), True)
            self.assertIs(is_turning((-a, -b, -c, -d)), False)

    def test_another_determinant(self):
        for four in [(1, 0, 1, 0), (0, 0, 0, 0), (1, 1, 1, 1), (2, 0, 0, 1), (0, 1, 1, 0), (2, 0, 1, 1),
                     (1, 0, 0, 2), (1, 1, 1, 0), (0, 0, 1, 1)]:
            self.assertIs(is_turning(four), False)

    def test_many_figures_a_little_off(self):
        for one in BIG_TURNINGS:
            for at in range(4):
                for step in [1, -1]:
                    off = one[:at] + (one[at] + step,) + one[at + 1:]
                    due = determinant(*off) == 1 and (off[2], off[3]) > (0, 0)
                    self.assert_told(is_turning(off), due)

    def test_other_things(self):
        for thing in OTHER_THINGS:
            with self.subTest(thing=thing):
                self.assertIs(is_turning(thing), False)

    def test_what_is_no_number_in_a_number_s_place(self):
        for one in [NOTHING, HALF, THIRD, (1, 1, 1, 2), (1, 1, 0, 1)]:
            for at in range(4):
                for wrong in NO_NUMBERS:
                    with self.subTest(one=one, at=at, wrong=wrong):
                        self.assertIs(is_turning(one[:at] + (wrong,) + one[at + 1:]), False)
        self.assertIs(is_turning((True, False, False, True)), False)

    def test_lists_and_other_lengths(self):
        for one in [NOTHING, HALF, THIRD, (2, 1, 1, 1)]:
            for thing in [list(one), one[:3], one[:2], one[:1], one[1:], one + (0,), one + (1,), (0,) + one,
                          one + one, (one,), [one], (one[:2], one[2:])]:
                with self.subTest(thing=thing):
                    self.assertIs(is_turning(thing), False)

    def test_truths_after_the_numbers_that_equal_them(self):
        for ask, due in [((1, 0, 0, 1), True), ((True, 0, 0, 1), False), ((1, False, 0, 1), False),
                         ((1, 0, False, 1), False), ((1, 0, 0, True), False), ((1, 0, 0, 1), True)]:
            self.assert_told(is_turning(ask), due)

    def test_nothing_is_changed(self):
        for thing in [[1, 0, 0, 1], ([1], [0], [0], [1]), [[1, 0], [0, 1]], NOTHING, (-1, 0, 0, -1)]:
            self.assert_unchanged(is_turning, thing)


class MadeTurning(Exact, unittest.TestCase):
    def test_all_small_quadruples(self):
        for four in quadruples():
            if determinant(*four) == 1:
                self.assert_told(turning(*four), upright(*four))
            else:
                self.assert_refused(NoTurning, turning, *four)

    def test_the_same_of_the_contraries(self):
        for a, b, c, d in SOME:
            self.assert_told(turning(a, b, c, d), (a, b, c, d))
            self.assert_told(turning(-a, -b, -c, -d), (a, b, c, d))

    def test_third_number_nought(self):
        for b in [0, 1, -1, 7, -7, BIG, -BIG]:
            self.assert_told(turning(1, b, 0, 1), (1, b, 0, 1))
            self.assert_told(turning(-1, b, 0, -1), (1, -b, 0, 1))

    def test_what_is_made_is_a_turning(self):
        for four in quadruples():
            if determinant(*four) == 1:
                self.assertIs(is_turning(turning(*four)), True)

    def test_another_determinant_is_refused(self):
        for four in [(0, 0, 0, 0), (0, 1, 1, 0), (1, 0, 0, -1), (2, 0, 0, 2), (1, 1, 1, 1), (BIG, 0, 0, BIG),
                     (BIG, BIG, BIG, BIG), (BIG + 1, BIG, BIG, BIG), (BIG, BIG + 1, 1, 1), (1, BIG, 0, -1)]:
            self.assert_refused(NoTurning, turning, *four)

    def test_many_figures_a_little_off(self):
        for one in BIG_TURNINGS:
            for at in range(4):
                off = one[:at] + (one[at] + 1,) + one[at + 1:]
                if determinant(*off) != 1:
                    self.assert_refused(NoTurning, turning, *off)


class Products(Exact, unittest.TestCase):
    def test_as_reckoned(self):
        for one in SOME:
            for other in SOME:
                self.assert_told(times(one, other), product(one, other))

    def test_by_hand(self):
        for one, other, due in [(HALF, HALF, NOTHING), (HALF, THIRD, (1, -1, 0, 1)), (THIRD, HALF, (1, 0, 1, 1)),
                                (THIRD, THIRD, (1, -1, 1, 0)), ((1, 1, 0, 1), (1, 0, 1, 1), (2, 1, 1, 1)),
                                ((1, 0, 1, 1), (1, 1, 0, 1), (1, 1, 1, 2)), ((1, 2, 0, 1), (1, 3, 0, 1), (1, 5, 0, 1))]:
            self.assert_told(times(one, other), due)

    def test_what_is_told_is_a_turning(self):
        for one in SOME:
            self.assertIs(is_turning(contrary(one)), True)
            for other in SOME:
                self.assertIs(is_turning(times(one, other)), True)

    def test_nothing_on_either_side(self):
        for one in SOME:
            self.assert_told(times(one, NOTHING), one)
            self.assert_told(times(NOTHING, one), one)

    def test_three_in_a_row(self):
        few = [HALF, THIRD, (2, 1, 1, 1), (1, -3, 0, 1)] + BIG_TURNINGS
        for one, other, third in itertools.product(few, repeat=3):
            self.assertEqual(times(times(one, other), third), times(one, times(other, third)))

    def test_what_was_told_is_handed_in_again(self):
        power = due = BIG_TURNINGS[-1]
        for count in range(6):
            power, due = times(power, power), product(due, due)
            self.assert_told(power, due)
            self.assertIs(is_turning(power), True)
            self.assert_told(times(power, contrary(power)), NOTHING)

    def test_half_twice_and_third_three_times(self):
        self.assert_told(times(HALF, HALF), NOTHING)
        self.assert_told(times(THIRD, times(THIRD, THIRD)), NOTHING)
        self.assert_told(times(THIRD, THIRD), contrary(THIRD))

    def test_nothing_is_changed(self):
        self.assert_unchanged(times, (2, 1, 1, 1), HALF)


class Contraries(Exact, unittest.TestCase):
    def test_as_reckoned(self):
        for a, b, c, d in small_turnings() + BIG_TURNINGS:
            self.assert_told(contrary((a, b, c, d)), undone((a, b, c, d)))

    def test_by_hand(self):
        for one, due in [(NOTHING, NOTHING), (HALF, HALF), (THIRD, (1, -1, 1, 0)), ((1, 4, 0, 1), (1, -4, 0, 1)),
                         ((2, 1, 1, 1), (-1, 1, 1, -2)), ((1, 0, 1, 1), (-1, 0, 1, -1))]:
            self.assert_told(contrary(one), due)

    def test_either_way_they_are_nothing(self):
        for one in small_turnings() + BIG_TURNINGS:
            self.assert_told(times(one, contrary(one)), NOTHING)
            self.assert_told(times(contrary(one), one), NOTHING)
            self.assert_told(contrary(contrary(one)), one)

    def test_of_a_product(self):
        for one in SOME:
            for other in SOME:
                self.assertEqual(contrary(times(one, other)), times(contrary(other), contrary(one)))

    def test_nothing_is_changed(self):
        self.assert_unchanged(contrary, (2, 1, 1, 1))


class Powers(Exact, unittest.TestCase):
    def test_as_reckoned(self):
        for one in SOME[::5] + [NOTHING, HALF, THIRD, BIG_TURNINGS[-1]]:
            for power in range(-9, 10):
                due = product(*[one if power > 0 else undone(one)] * abs(power))
                self.assert_told(power_of(one, power), due)

    def test_many(self):
        for power in [100, -100, 10 ** 12, 1 - 10 ** 12, 999983]:
            self.assert_told(power_of((1, 1, 0, 1), power), (1, power, 0, 1))
            self.assert_told(power_of(HALF, power), HALF if power % 2 else NOTHING)


class Led(Exact, unittest.TestCase):
    def test_as_reckoned(self):
        for a, b, c, d in small_turnings() + BIG_TURNINGS:
            for p, q in FRACTIONS:
                self.assert_told(led((a, b, c, d), (p, q)), fraction(a * p + b * q, c * p + d * q))

    def test_by_hand(self):
        for one, handed, due in [(HALF, (1, 0), (0, 1)), (HALF, (0, 1), (1, 0)), (HALF, (2, 3), (-3, 2)),
                                 (HALF, (-2, 3), (3, 2)), (THIRD, (1, 0), (0, 1)), (THIRD, (0, 1), (1, 1)),
                                 (THIRD, (1, 1), (1, 0)), ((1, 5, 0, 1), (1, 0), (1, 0)),
                                 ((1, 5, 0, 1), (-1, 2), (9, 2)), ((2, 1, 1, 1), (-1, 1), (1, 0)),
                                 ((2, 1, 1, 1), (-1, 2), (0, 1)), ((1, 0, 3, 1), (1, 0), (1, 3)),
                                 ((1, -1, 0, 1), (0, 1), (-1, 1)), ((1, 0, 1, 1), (-2, 1), (2, 1))]:
            self.assert_told(led(one, handed), due)

    def test_what_is_told_is_a_fraction(self):
        for one in SOME:
            for handed in FRACTIONS:
                self.assertIs(is_fraction(led(one, handed)), True)

    def test_nothing_leads_each_to_itself(self):
        for handed in FRACTIONS:
            self.assert_told(led(NOTHING, handed), handed)

    def test_a_product_leads_as_its_second_one_and_then_its_first_one(self):
        for one in SOME:
            for other in SOME:
                for handed in FRACTIONS:
                    self.assertEqual(led(times(one, other), handed), led(one, led(other, handed)))

    def test_the_contrary_leads_back(self):
        for one in SOME:
            for handed in FRACTIONS:
                self.assert_told(led(contrary(one), led(one, handed)), handed)

    def test_neighbours_stay_neighbours(self):
        for one in SOME:
            for handed in FRACTIONS:
                for other in FRACTIONS:
                    self.assertIs(are_neighbours(led(one, handed), led(one, other)), are_neighbours(handed, other))

    def test_nothing_is_changed(self):
        self.assert_unchanged(led, (2, 1, 1, 1), (1, 0))


class Edges(Exact, unittest.TestCase):
    def test_where_1_0_and_0_1_are_led(self):
        for a, b, c, d in small_turnings() + BIG_TURNINGS:
            self.assert_told(edge((a, b, c, d)), (fraction(a, c), fraction(b, d)))

    def test_by_hand(self):
        for one, due in [(NOTHING, ((1, 0), (0, 1))), (HALF, ((0, 1), (1, 0))), (THIRD, ((0, 1), (1, 1))),
                         ((1, 7, 0, 1), ((1, 0), (7, 1))), ((1, -7, 0, 1), ((1, 0), (-7, 1))),
                         ((-1, -2, 2, 3), ((-1, 2), (-2, 3))), ((-3, 2, 1, -1), ((-3, 1), (-2, 1)))]:
            self.assert_told(edge(one), due)

    def test_they_are_neighbours(self):
        for one in small_turnings() + BIG_TURNINGS:
            first, second = edge(one)
            self.assertIs(is_fraction(first) and is_fraction(second), True)
            self.assertIs(are_neighbours(first, second), True)

    def test_no_two_turnings_have_the_same_edge(self):
        ones = small_turnings() + BIG_TURNINGS
        self.assertEqual(len({edge(one) for one in ones}), len(set(ones)))

    def test_nothing_is_changed(self):
        self.assert_unchanged(edge, (2, 1, 1, 1))


class Between(Exact, unittest.TestCase):
    def test_between_the_edge_lies_the_turning(self):
        for one in small_turnings() + BIG_TURNINGS:
            first, second = edge(one)
            self.assert_told(turning_between(first, second), one)

    def test_the_other_way_about_it_is_turned_by_a_half(self):
        for one in small_turnings() + BIG_TURNINGS:
            first, second = edge(one)
            self.assert_told(turning_between(second, first), product(one, HALF))

    def test_all_pairs_of_small_fractions(self):
        ones = sorted({fraction(p, q) for p in range(-7, 8) for q in range(0, 6) if (p, q) != (0, 0)})
        for one in ones:
            for other in ones:
                if are_neighbours(one, other):
                    told = turning_between(one, other)
                    self.assertIs(is_turning(told), True)
                    self.assert_told(edge(told), (one, other))
                else:
                    self.assert_refused(NoTurning, turning_between, one, other)

    def test_by_hand(self):
        for one, other, due in [((1, 0), (0, 1), NOTHING), ((0, 1), (1, 0), HALF), ((0, 1), (1, 1), THIRD),
                                ((1, 1), (0, 1), (1, 0, 1, 1)), ((1, 0), (-4, 1), (1, -4, 0, 1)),
                                ((-4, 1), (1, 0), (-4, -1, 1, 0)), ((1, 2), (1, 1), (1, -1, 2, -1)),
                                ((1, 1), (1, 2), (1, 1, 1, 2)), ((-1, 2), (-1, 1), (-1, -1, 2, 1))]:
            self.assert_told(turning_between(one, other), due)

    def test_others_are_refused(self):
        for one, other in [((1, 0), (1, 0)), ((0, 1), (0, 1)), ((3, 2), (3, 2)), ((1, 0), (1, 2)), ((1, 2), (1, 0)),
                           ((0, 1), (2, 1)), ((0, 1), (-2, 1)), ((-1, 1), (1, 1)), ((BIG, 1), (BIG + 2, 1)),
                           ((BIG, 1), (BIG, 1)), ((BIG - 1, BIG), (BIG + 1, BIG + 2))]:
            self.assert_refused(NoTurning, turning_between, one, other)
            self.assert_refused(NoTurning, turning_between, other, one)

    def test_nothing_is_changed(self):
        self.assert_unchanged(turning_between, (1, 2), (1, 1))


if __name__ == "__main__":
    unittest.main()
