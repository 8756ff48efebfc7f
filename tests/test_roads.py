"""Roots and their keepers: promise [27], and [2] as it holds for them."""

import itertools
import math
import random
import time
import unittest

from fanglue.errors import NoRoot, TooLong
from fanglue.places import table_of
from fanglue.roads import keeper, kept
from reckoned import (
    ALL, EVEN_HALVES, FANS, FROM_NOUGHT, PLAIN_TWO, ROUND_THIRDS, SIX, big_fans, letters_of, product, short_form,
    some_table, some_tables, undone, upright, walked)
from things import NO_NUMBERS, OTHER_THINGS, Exact, nested, whole_of

NO_ROOTS = [
    (0, 1, 1), (0, 3, -7), (0, 0, 1), (0, 0, 0), (0, 5, 0),
    (100, 1, -1), (1, 100, -1), (1, 1, -100), (-100, 1, 1), (1, -100, 1), (1, 3, 100), (10 ** 12 - 1, 1, -1),
    (10 ** 299, 1, -1), (1, 1, -(10 ** 299)), (1, 999, 1), (101, 0, -99),
    (2, 2, -2), (2, 4, -6), (3, 0, -6), (-3, 9, 6), (6, 12, -18), (99, 99, -99), (5, 5, -5), (98, 0, -98),
    (1, 0, -1), (1, 0, -4), (1, 3, 2), (1, 1, 0), (7, 5, 0), (2, 5, 2), (-1, 3, -2), (1, 0, -81), (4, 0, -9),
    (1, 2, 1), (1, 0, 0), (4, 4, 1), (-9, 6, -1), (1, 18, 81),
    (1, 0, 1), (1, 1, 1), (5, 3, 1), (-1, 0, -1), (99, 1, 99), (-99, 1, -99), (97, 96, 95),
    (1, -1), (1, -1, -1, 0), (1, -1, -1, -1), (1,), (), ((1, -1, -1),), [1, -1, -1], "1 -1 -1", "111",
    ("1", "-1", "-1"),
    (1, 0, "-2"), (1, 0, (-2,)), (1, 0, [-2]), (1, None, -2), (True, 0, -2), (1, True, -1), (1, False, -2),
    (1, -1, (-1, 0)), (1, -1, None), nested((1, -1, -1), 5),
]


def is_own_root(root):
    a, b, c = root
    under = b * b - 4 * a * c
    return a != 0 and math.gcd(a, b, c) == 1 and under > 0 and math.isqrt(under) ** 2 != under


def least_step(under):
    """The least t, u above 0 with t * t - under * u * u = 4, along the fractions nearest to the half root."""
    odd = under % 2
    side = math.isqrt(under)
    p, q = odd, 2
    above, here = (1, 0), ((odd + side) // 2, 1)
    while True:
        t, u = 2 * here[0] - odd * here[1], here[1]
        if t * t - under * u * u == 4:
            return (t, u)
        p = (p + side) // q * q - p
        q = (under - p * p) // q
        whole = (p + side) // q
        above, here = here, (whole * here[0] + above[0], whole * here[1] + above[1])


def own_keeper(root):
    """The one of both keepers that least_step tells."""
    a, b, c = root
    t, u = least_step(b * b - 4 * a * c)
    return upright((t - b * u) // 2, -c * u, a * u, (t + b * u) // 2)


def some_roots(count, low, high, seed):
    """So many roots, the numbers of these sizes, the same in every run."""
    chance = random.Random(seed)
    while count > 0:
        root = tuple(chance.choice([-1, 1]) * chance.randint(low, high) for at in range(3))
        if is_own_root(root):
            count -= 1
            yield root


class NoRoots(Exact, unittest.TestCase):
    def assert_no_root(self, thing):
        self.assert_refused(NoRoot, keeper, thing)
        self.assert_refused(NoRoot, kept, SIX, thing)
        self.assert_refused(NoRoot, kept, ALL, thing)

    def test_by_hand(self):
        for thing in NO_ROOTS:
            with self.subTest(thing=str(thing)[:60]):
                self.assert_no_root(thing)

    def test_other_things(self):
        for thing in OTHER_THINGS:
            if type(thing) is not tuple or len(thing) != 3 or not all(type(each) is int for each in thing):
                self.assert_no_root(thing)

    def test_one_number_another_thing(self):
        for at in range(3):
            for thing in NO_NUMBERS:
                root = [1, -1, -1]
                root[at] = thing
                self.assert_no_root(tuple(root))

    def test_all_small_ones(self):
        for root in itertools.product(range(-6, 7), repeat=3):
            if is_own_root(root):
                keeper(root)
            else:
                self.assert_no_root(root)

    def test_two_figures_and_three(self):
        for root in [(99, 1, -1), (-99, 1, 1), (1, 99, -1), (1, -99, 1), (1, 1, -99), (98, 97, -99), (-1, -97, 99)]:
            self.assertTrue(is_own_root(root))
            try:
                keeper(root)
            except TooLong:
                pass
            for at in range(3):
                if abs(root[at]) == 99:
                    beyond = root[:at] + (root[at] + (1 if root[at] > 0 else -1),) + root[at + 1:]
                    self.assert_no_root(beyond)


class Keeper(Exact, unittest.TestCase):
    def assert_keeper(self, root):
        due = own_keeper(root)
        many = len(short_form(letters_of(due)))
        if many > 2000:
            self.assert_refused(TooLong, keeper, root)
            self.assert_refused(TooLong, kept, SIX, root)
        else:
            told = keeper(root)
            self.assertIn(told, [due, undone(due)])
            self.assertEqual([type(part) for part in told], [int] * 4)
        return many

    def test_least_step_counted_up(self):
        for under in range(5, 400):
            if under % 4 < 2 and math.isqrt(under) ** 2 != under and least_step(under)[1] < 10000:
                u = 1
                while math.isqrt(under * u * u + 4) ** 2 != under * u * u + 4:
                    u += 1
                self.assertEqual(least_step(under), (math.isqrt(under * u * u + 4), u))

    def test_by_hand(self):
        for root, due in [
                ((1, -1, -1), (2, 1, 1, 1)), ((1, 0, -2), (3, 4, 2, 3)), ((1, 0, -3), (2, 3, 1, 2)),
                ((-1, 1, 1), (2, 1, 1, 1)), ((2, 0, -1), (3, 2, 4, 3)), ((1, 1, -1), (1, 1, 1, 2)),
                ((1, 0, -7), (8, 21, 3, 8)), ((1, 0, -61), (1766319049, 61 * 226153980, 226153980, 1766319049))]:
            self.assertIn(keeper(root), [due, undone(due)])

    def test_it_keeps_the_root_and_is_unlike_nothing(self):
        for root in some_roots(300, 0, 99, 1):
            try:
                e, f, g, h = keeper(root)
            except TooLong:
                continue
            a, b, c = root
            self.assertGreater(g, 0)
            self.assertEqual(e * h - f * g, 1)
            # x is led to itself where g x x + (h - e) x - f is 0, as a x x + b x + c is.
            self.assertEqual((g * b, g * c), (a * (h - e), -a * f))

    def test_all_small_roots(self):
        for root in itertools.product(range(-6, 7), repeat=3):
            if is_own_root(root):
                self.assert_keeper(root)

    def test_roots_of_two_figures(self):
        found = [self.assert_keeper(root) for low in (0, 40, 90) for root in some_roots(120, low, 99, low)]
        self.assertGreater(len([many for many in found if many > 2000]), 10)
        self.assertGreater(len([many for many in found if 1000 < many <= 2000]), 10)
        self.assertGreater(len([many for many in found if many <= 400]), 50)

    def test_near_two_thousand_letters(self):
        for root, due in [
                ((25, -71, -60), 1996), ((65, 38, -93), 1996), ((-36, 31, 70), 1996), ((-67, 34, 72), 2000),
                ((86, 77, -99), 2000), ((-39, -59, 86), 2004), ((25, 53, -52), 2004), ((-5, 91, 62), 2004)]:
            self.assertEqual(self.assert_keeper(root), due)
            a, b, c = root
            for other in [(c, -b, a), (-a, b, -c), (a, -b, c), (-c, -b, -a)]:
                self.assert_keeper(other)

    def test_a_hundred_figures_at_once(self):
        begun = time.monotonic()
        figures = 0
        for root in some_roots(150, 50, 99, 5):
            try:
                figures = max(figures, len(str(max(map(abs, keeper(root))))))
            except TooLong:
                pass
        self.assertGreater(figures, 70)
        self.assertLess(time.monotonic() - begun, 20)

    def test_contrary_roots_and_turned_ones(self):
        for root in some_roots(60, 0, 30, 3):
            a, b, c = root
            other = (-a, -b, -c)
            try:
                self.assertIn(keeper(other), [keeper(root), undone(keeper(root))])
            except TooLong:
                self.assert_refused(TooLong, keeper, other)

    def test_nothing_is_changed(self):
        self.assert_unchanged(keeper, (1, 0, -61))


class Kept(Exact, unittest.TestCase):
    def assert_kept(self, table, root):
        one = keeper(root)
        word = letters_of(one)
        told = kept(table, root)
        self.assertEqual([type(part) for part in told], [int, tuple])
        self.assertEqual(len(told), 2)
        power, turning = told
        due = next(many for many in range(1, 61) if walked(table, word * many) == 0)
        self.assertEqual(power, due)
        due = product(*[one] * power)
        self.assertIn(turning, [due, undone(due)])
        return power

    def test_by_hand(self):
        for table, root, due in [
                (ALL, (1, -1, -1), 1), (FROM_NOUGHT, (1, -1, -1), 3), (PLAIN_TWO, (1, -1, -1), 3),
                (PLAIN_TWO, (1, 0, -2), 1), (EVEN_HALVES, (1, -1, -1), 1), (PLAIN_TWO, (1, 0, -3), 2)]:
            power, turning = kept(table, root)
            self.assertEqual(power, due)
            one = product(*[keeper(root)] * power)
            self.assertIn(turning, [one, undone(one)])

    def test_tables_and_roots(self):
        tables = [ROUND_THIRDS, SIX] + [table_of(fan) for fan in FANS] + list(some_tables(1))[::7]
        found = set()
        for root in some_roots(25, 0, 12, 2):
            for table in tables:
                found.add(self.assert_kept(table, root))
        self.assertLessEqual({1, 2, 3, 4, 5, 6}, found)

    def test_high_powers(self):
        found = [self.assert_kept(some_table(60, seed), (1, -1, -1)) for seed in range(25)]
        self.assertGreater(max(found), 40)

    def test_figures_without_end(self):
        done = 0
        for root in some_roots(60, 50, 99, 5):
            try:
                one = keeper(root)
            except TooLong:
                continue
            if len(short_form(letters_of(one))) > 300:
                begun = time.monotonic()
                self.assert_kept(some_table(60, done), root)
                self.assertLess(time.monotonic() - begun, 5)
                done += 1
        self.assertGreater(done, 10)

    def test_too_long(self):
        done = 0
        for root in some_roots(60, 80, 99, 9):
            if len(short_form(letters_of(own_keeper(root)))) > 2000:
                for table in [ALL, SIX, table_of(big_fans(1)[3])]:
                    self.assert_refused(TooLong, kept, table, root)
                done += 1
        self.assertGreater(done, 5)

    def test_no_root_whatever_the_table(self):
        for table in [ALL, SIX, some_table(60, 1)]:
            self.assert_refused(NoRoot, kept, table, (1, 0, -4))
            self.assert_refused(NoRoot, kept, table, (whole_of(300, 3), 1, -1))

    def test_nothing_is_changed(self):
        self.assert_unchanged(kept, SIX, (1, 0, -3))


if __name__ == "__main__":
    unittest.main()
