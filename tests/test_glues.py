"""Glues and rows of them: promises [10] and [11], what [3] says of them, and [2] as it holds for them."""

import itertools
import random
import unittest

from fanglue.glues import glue, is_short_row, row_turning, short_row
from reckoned import (
    BOTH_THIRDS, FANS, FIVE, FOUR, HALF, NOTHING, PAIRS, THIRD, THREE, TWO, big_fans, glue_of, is_due_short, product,
    row_product, small_fans, some_fan, some_row, some_short_row, undone)
from things import Exact, whole_of


def rows(fan, most, powers):
    """All rows of at most so many glues with these powers."""
    tuples = [(gap, power) for gap in range(len(fan[0])) for power in powers]
    for many in range(most + 1):
        yield from itertools.product(tuples, repeat=many)


def small_short_rows(fan, most):
    """All short rows of at most so many glues with powers from -2 to 2."""
    return [row for row in rows(fan, most, [-2, -1, 1, 2]) if is_due_short(fan, row)]


def from_behind(glues):
    """The row of the contraries, from behind."""
    return tuple((gap, -power) for gap, power in reversed(glues))


class Glues(Exact, unittest.TestCase):
    def test_as_reckoned(self):
        for fan in list(small_fans(5)) + big_fans(4):
            for gap in range(len(fan[0])):
                self.assert_told(glue(fan, gap), glue_of(fan, gap))

    def test_by_hand(self):
        for fan, gap, due in [
                (TWO, 0, HALF), (TWO, 1, THIRD), (BOTH_THIRDS, 0, (-1, -1, 1, 0)), (BOTH_THIRDS, 1, THIRD),
                (THREE, 0, HALF), (THREE, 1, (2, -1, 1, 0)), (THREE, 2, (0, -1, 1, -2)),
                (FOUR, 0, (1, 2, 0, 1)), (FOUR, 3, (1, -2, 0, 1)), (FOUR, 1, (-1, -1, 2, 1)),
                (FOUR, 2, (1, -1, 3, -2))]:
            with self.subTest(fan=fan, gap=gap):
                self.assert_told(glue(fan, gap), due)

    def test_half_ones_twice_and_third_ones_three_times_are_nothing(self):
        for fan in list(small_fans(4)) + big_fans(4):
            for gap, mark in enumerate(fan[1]):
                one = glue(fan, gap)
                self.assertNotEqual(one, NOTHING)
                if mark == "half":
                    self.assert_told(product(one, one), NOTHING)
                elif mark == "third":
                    self.assertNotEqual(product(one, one), NOTHING)
                    self.assert_told(product(one, one, one), NOTHING)
                else:
                    self.assert_told(product(one, glue(fan, mark)), NOTHING)
                    self.assertNotEqual(product(one, one), NOTHING)
                    self.assertNotEqual(product(one, one, one), NOTHING)

    def test_two_glued_gaps_are_led_to_one_another(self):
        for fan in big_fans(4):
            row, marks = fan
            for gap, mark in enumerate(marks):
                if type(mark) is int:
                    a, b, c, d = glue(fan, gap)
                    once_round = row + row[:1]
                    for (p, q), (r, s) in [(row[gap], once_round[mark + 1]), (once_round[gap + 1], row[mark])]:
                        self.assertEqual((a * p + b * q) * s, (c * p + d * q) * r)

    def test_nothing_is_changed(self):
        for gap in range(5):
            self.assert_unchanged(glue, FIVE, gap)


class RowTurnings(Exact, unittest.TestCase):
    def test_all_rows_of_few(self):
        for fan in FANS[:4]:
            for row in rows(fan, 2, [-3, -2, -1, 1, 2, 3]):
                self.assert_told(row_turning(fan, row), row_product(fan, row))

    def test_rows_of_many(self):
        for seed, fan in enumerate(FANS + big_fans(2)):
            row = some_row(fan, seed % 25, 100, seed)
            self.assert_told(row_turning(fan, row), row_product(fan, row))

    def test_twenty_four_with_the_greatest_powers(self):
        for fan in [FIVE, PAIRS, some_fan(22, 5)]:
            for power in [100, -100]:
                row = tuple((at % len(fan[0]), power) for at in range(24))
                self.assert_told(row_turning(fan, row), row_product(fan, row))

    def test_by_hand(self):
        for fan, row, due in [
                (TWO, (), NOTHING), (TWO, ((0, 1),), HALF), (TWO, ((1, 1), (0, 1)), (1, 0, 1, 1)),
                (TWO, ((1, -1), (0, 1)), (1, 1, 0, 1)), (TWO, ((0, 1), (1, 1)), (1, -1, 0, 1)),
                (FOUR, ((0, 50),), (1, 100, 0, 1)), (FOUR, ((0, -50),), (1, -100, 0, 1)),
                (FOUR, ((3, 50),), (1, -100, 0, 1)), (FOUR, ((3, -100),), (1, 200, 0, 1)),
                (FOUR, ((0, 100), (3, 100)), NOTHING), (TWO, ((0, 100),), NOTHING), (TWO, ((0, -99),), HALF),
                (TWO, ((1, 100),), THIRD), (TWO, ((1, -100),), (1, -1, 1, 0)), (TWO, ((1, 99),), NOTHING)]:
            self.assert_told(row_turning(fan, row), due)

    def test_nothing_is_changed(self):
        self.assert_unchanged(row_turning, FIVE, ((0, 2), (1, -1)))


class IsShortRow(Exact, unittest.TestCase):
    def test_all_rows_of_few(self):
        for fan in FANS:
            for row in rows(fan, 2, [-3, -2, -1, 1, 2, 3, 4]):
                self.assert_told(is_short_row(fan, row), is_due_short(fan, row))

    def test_by_hand(self):
        for fan, row, due in [
                (FOUR, (), True), (FOUR, ((0, 1),), True), (FOUR, ((0, -7),), True), (FOUR, ((3, 1),), False),
                (FOUR, ((1, 1),), True), (FOUR, ((1, -1),), False), (FOUR, ((1, 2),), False), (FOUR, ((2, 1),), True),
                (FOUR, ((2, 2),), True), (FOUR, ((2, 3),), False), (FOUR, ((2, -1),), False), (FOUR, ((2, 4),), False),
                (FOUR, ((0, 1), (0, 1)), False), (FOUR, ((0, 1), (1, 1), (0, 1)), True),
                (FOUR, ((1, 1), (1, 1)), False), (FOUR, ((2, 1), (2, 1)), False), (FOUR, ((0, 1), (0, -1)), False),
                (FOUR, ((0, 999999999999),), True), (FOUR, ((0, -999999999999), (2, 2)), True),
                (FOUR, ((2, 999999999999),), False), (FOUR, ((1, 999999999999),), False),
                (FOUR, ((1, 1), (2, 2), (1, 1), (2, 1), (0, 5), (2, 1), (0, -5), (1, 1)), True)]:
            self.assert_told(is_short_row(fan, row), due)

    def test_rows_of_many(self):
        for seed, fan in enumerate(FANS + big_fans(6)):
            row = some_short_row(fan, 24, 10 ** 11, seed)
            self.assert_told(is_short_row(fan, row), True)
            for at in range(len(row)):
                gap, power = row[at]
                for other in [row[:at] + row[at:at + 1] + row[at:], row[:at] + ((gap, -power),) + row[at + 1:],
                              row[:at] + ((gap, power + 1),) + row[at + 1:], row[:at] + row[at + 1:]]:
                    if all(power for gap, power in other):
                        self.assert_told(is_short_row(fan, other), is_due_short(fan, other))

    def test_nothing_is_changed(self):
        self.assert_unchanged(is_short_row, FIVE, ((0, 2), (1, -1)))


class ShortRows(Exact, unittest.TestCase):
    def assert_shortened(self, fan, row):
        told = short_row(fan, row)
        self.assertIs(type(told), tuple)
        self.assertEqual({type(each) for each in told} | {tuple}, {tuple})
        self.assertTrue(is_due_short(fan, told), told)
        self.assertTrue(all(power for gap, power in told))
        self.assert_told(short_row(fan, told), told)
        self.assert_told(is_short_row(fan, told), True)
        return told

    def test_all_rows_of_few(self):
        for fan in FANS[:4]:
            for row in rows(fan, 3, [-2, -1, 1, 3]):
                told = self.assert_shortened(fan, row)
                self.assert_told(row_product(fan, told), row_product(fan, row))

    def test_rows_of_many(self):
        for seed, fan in enumerate(FANS * 4 + big_fans(4)):
            for most in [1, 2, 5, 100]:
                row = some_row(fan, 24 - seed % 3, most, seed)
                told = self.assert_shortened(fan, row)
                self.assert_told(row_turning(fan, told), row_turning(fan, row))

    def test_short_rows_stay(self):
        for seed, fan in enumerate(FANS + big_fans(4)):
            row = some_short_row(fan, 24, 10 ** 12 - 1, seed)
            self.assert_told(self.assert_shortened(fan, row), row)

    def test_by_hand(self):
        far = 999999999999
        for row, due in [
                ((), ()), (((0, 1),), ((0, 1),)), (((3, 1),), ((0, -1),)), (((3, -4),), ((0, 4),)),
                (((1, 1),), ((1, 1),)), (((1, -1),), ((1, 1),)), (((1, 2),), ()), (((1, far),), ((1, 1),)),
                (((1, -far),), ((1, 1),)), (((1, far - 1),), ()), (((2, far),), ()), (((2, far - 1),), ((2, 2),)),
                (((2, 1 - far),), ((2, 1),)), (((2, -1),), ((2, 2),)), (((2, -2),), ((2, 1),)), (((2, 4),), ((2, 1),)),
                (((0, far), (0, far)), ((0, 2 * far),)), (((0, far), (3, far)), ()),
                (((0, far), (3, 1)), ((0, far - 1),)),
                (((3, far), (0, 1)), ((0, 1 - far),)), (((0, 1), (1, 2), (0, 1)), ((0, 2),)),
                (((0, 1), (1, 1), (1, -3), (0, -1)), ()), (((0, 1), (2, 1), (2, 1), (2, 1), (3, 1)), ()),
                (((2, 1), (2, 1)), ((2, 2),)), (((2, 2), (2, 2)), ((2, 1),)), (((2, 2), (1, 4), (2, 1)), ()),
                (((0, 1), (1, 1), (2, 1), (2, 2), (1, 1), (0, 2)), ((0, 3),)),
                (((1, 1), (0, 1), (2, 1)), ((1, 1), (0, 1), (2, 1)))]:
            self.assert_told(short_row(FOUR, row), due)

    def test_with_its_contraries_from_behind(self):
        for seed, fan in enumerate(FANS * 3 + big_fans(3)):
            row = some_row(fan, 12, 10 ** 12 - 1, seed)
            self.assert_told(short_row(fan, row + from_behind(row)), ())
            self.assert_told(short_row(fan, from_behind(row) + row), ())

    def test_powers_of_twelve_figures_leave_what_the_document_asks(self):
        # Too great to be multiplied out: a row is shortened alike where each power is lessened by whole rounds.
        for seed, fan in enumerate(FANS + big_fans(2)):
            chance = random.Random(seed)
            row, lessened = [], []
            for at in range(24):
                gap = chance.randrange(len(fan[0]))
                power = chance.choice([-1, 1]) * chance.randrange(1, 7)
                whole = 6 * (whole_of(11, seed * 100 + at)) if type(fan[1][gap]) is str else 0
                row.append((gap, power + whole))
                lessened.append((gap, power))
            self.assert_told(self.assert_shortened(fan, tuple(row)), short_row(fan, tuple(lessened)))

    def test_unlike_short_rows_have_unlike_turnings(self):
        for fan in FANS[:5]:
            short = small_short_rows(fan, 3)
            told = {row_turning(fan, row) for row in short}
            self.assertEqual(len(told), len(short))

    def test_no_short_row_but_that_of_none_is_nothing(self):
        for seed, fan in enumerate(FANS + big_fans(6)):
            self.assert_told(row_turning(fan, ()), NOTHING)
            for many in range(1, 25):
                row = some_short_row(fan, many, 3, seed * 100 + many)
                self.assertNotEqual(row_turning(fan, row), NOTHING)

    def test_a_product_is_shortened_as_its_parts(self):
        for seed, fan in enumerate(FANS + big_fans(2)):
            one, other = some_row(fan, 12, 9, seed), some_row(fan, 12, 9, seed + 500)
            told = short_row(fan, one + other)
            self.assert_told(short_row(fan, short_row(fan, one) + short_row(fan, other)), told)
            self.assert_told(row_turning(fan, told), product(row_turning(fan, one), row_turning(fan, other)))
            self.assert_told(row_turning(fan, from_behind(one)), undone(row_turning(fan, one)))

    def test_nothing_is_changed(self):
        self.assert_unchanged(short_row, FIVE, ((0, 2), (1, -1), (1, 5), (3, 3)))


if __name__ == "__main__":
    unittest.main()
