"""Turnings sorted and alike: promises [22], [23] and [24], what [3] says of them, and [2] as it holds for them."""

import itertools
import random
import time
import unittest

from fanglue.errors import NotIn, TooLong
from fanglue.places import table_of
from fanglue.sorts import alike_in, round_row, sort_of
from reckoned import (
    BOTH_THIRDS, FANS, FIVE, FOUR, HALF, NOTHING, PAIRS, THIRD, THREE, TWO, big_fans, glue_of, is_due_short,
    letters_of, long_word, product, row_product, short_words, some_fan, some_row, some_short_row, spelled, undone,
    walked)
from things import Exact, whole_of


def conjugate(one, by):
    """The contrary of the second times the first times the second."""
    return product(undone(by), one, by)


class SortOf(Exact, unittest.TestCase):
    def test_by_hand(self):
        for one, due in [
                (NOTHING, "nothing"), (HALF, "half"), (THIRD, "third"), (undone(THIRD), "third"),
                ((1, 1, 0, 1), "end"), ((1, -1, 0, 1), "end"), ((-1, 0, 1, -1), "end"), ((1, 0, 5, 1), "end"),
                ((2, 1, 1, 1), "road"), ((-2, -1, 1, 0), "end"), ((-3, 1, 2, -1), "road"), ((2, -5, 1, -2), "half"),
                ((1, -1, 1, 0), "third"), ((0, -1, 1, 1), "third"), ((0, -1, 1, -3), "road"), ((0, -1, 1, 3), "road"),
                ((0, -1, 1, 2), "end"), ((0, -1, 1, -2), "end"), ((3, -7, 1, -2), "third"), ((-3, -7, 1, 2), "third")]:
            with self.subTest(one=one):
                self.assert_told(sort_of(one), due)

    def test_turned_ones_are_of_one_sort(self):
        for seed in range(80):
            by = spelled(long_word(seed, seed))
            for one, due in [(NOTHING, "nothing"), (HALF, "half"), (THIRD, "third"), ((1, seed + 1, 0, 1), "end"),
                             ((1, -seed - 1, 0, 1), "end"), ((0, -1, 1, seed + 3), "road"),
                             ((0, -1, 1, -seed - 3), "road")]:
                self.assert_told(sort_of(conjugate(one, by)), due)

    def test_steps_along_an_end_taken_often(self):
        for power in [1, 2, 1000, 10 ** 12 - 1, whole_of(299, 3), whole_of(300, 4)]:
            for one in [(1, power, 0, 1), (1, -power, 0, 1), (1, 0, power, 1), (-1, 0, power, -1),
                        (1 + 6 * power, -4 * power, 9 * power, 1 - 6 * power),
                        (-1 + 6 * power, -4 * power, 9 * power, -1 - 6 * power)]:
                self.assert_told(sort_of(one), "end")

    def test_turnings_of_many_figures(self):
        for seed in range(6):
            many = whole_of(150, seed)
            for one, due in [((many, -1, 1, 0), "road"), ((many, -1 - many * many, 1, -many), "half"),
                             ((many + 1, -1 - many - many * many, 1, -many), "third"),
                             ((-many, -1 - many - many * many, 1, many + 1), "third"),
                             ((many - 1, -1 + many - many * many, 1, -many), "third"),
                             ((many + 2, -1 - 2 * many - many * many, 1, -many), "end"),
                             ((many - 2, -1 + 2 * many - many * many, 1, -many), "end"),
                             ((many + 3, -1 - 3 * many - many * many, 1, -many), "road")]:
                self.assertEqual(one[0] * one[3] - one[1] * one[2], 1)
                self.assert_told(sort_of(one), due)

    def test_all_small_ones_by_their_powers(self):
        for word in short_words(11):
            one = spelled(word)
            due = "nothing" if one == NOTHING else "half" if product(one, one) == NOTHING else None
            due = due or ("third" if product(one, one, one) == NOTHING else None)
            # It keeps p/q where c * p * p + (d - a) * p * q - b * q * q is 0: this tells the part under the root.
            under = (one[3] - one[0]) ** 2 + 4 * one[1] * one[2]
            due = due or ("end" if under == 0 else "road")
            self.assert_told(sort_of(one), due)

    def test_nothing_is_changed(self):
        self.assert_unchanged(sort_of, (2, 1, 1, 1))


class Rounds:
    def assert_round(self, fan, row):
        self.assertTrue(is_due_short(fan, row), row)
        self.assertTrue(len(row) <= 1 or row[0][0] != row[-1][0], row)

    def assert_of_group(self, fan, one):
        self.assertEqual(walked(table_of(fan), letters_of(one)), 0)

    def assert_round_row(self, fan, one):
        told = round_row(fan, one)
        self.assertEqual([type(part) for part in told], [tuple, tuple])
        self.assertEqual(len(told), 2)
        row, by = told
        self.assert_round(fan, row)
        self.assert_of_group(fan, by)
        self.assert_told(conjugate(row_product(fan, row), by), one)
        return row

    def assert_alike(self, fan, one, other):
        kind, by = alike_in(fan, one, other)
        self.assertEqual(kind, "alike")
        self.assert_of_group(fan, by)
        self.assert_told(conjugate(one, by), other)

    def assert_unlike(self, fan, one, other):
        told = alike_in(fan, one, other)
        self.assertEqual((type(told), len(told), told[0]), (tuple, 3, "unlike"))
        rows = told[1:]
        for row, each in zip(rows, (one, other)):
            self.assert_round(fan, row)
            due = round_row(fan, each)[0]
            self.assertIn(row, [due[at:] + due[:at] for at in range(len(due) + 1)])
        self.assertNotIn(rows[1], [rows[0][at:] + rows[0][:at] for at in range(len(rows[0]) + 1)])

    def assert_alike_or_not(self, fan, one, other):
        if alike_in(fan, one, other)[0] == "alike":
            self.assert_alike(fan, one, other)
            return True
        self.assert_unlike(fan, one, other)
        return False


class RoundRow(Rounds, Exact, unittest.TestCase):
    def test_by_hand(self):
        for fan, one, due in [
                (TWO, NOTHING, ((), NOTHING)), (TWO, HALF, (((0, 1),), NOTHING)),
                (FOUR, (1, 8, 0, 1), (((0, 4),), NOTHING))]:
            self.assert_told(round_row(fan, one), due)

    def test_rows_turned_by_hand(self):
        for fan, glues, due in [
                (FOUR, ((0, 1), (1, 1), (0, -1)), [((1, 1),)]),
                (FOUR, ((0, 3), (1, 1), (0, -1)), [((0, 2), (1, 1)), ((1, 1), (0, 2))]),
                (FOUR, ((2, 1), (0, 5), (2, 2)), [((0, 5),)]),
                (FOUR, ((2, 1), (0, 5), (2, 1)), [((2, 2), (0, 5)), ((0, 5), (2, 2))]),
                (FOUR, ((2, 2), (0, 5), (2, 2)), [((2, 1), (0, 5)), ((0, 5), (2, 1))]),
                (FOUR, ((1, 1), (2, 1), (1, 1)), [((2, 1),)]),
                (FOUR, ((1, 1), (2, 1), (0, -7), (2, 2), (1, 1)), [((0, -7),)]),
                (PAIRS, ((0, 2), (1, 1), (0, 1), (1, -1), (0, -2)), [((0, 1),)]),
                (PAIRS, ((0, 2), (1, 1), (0, 1)), [((0, 3), (1, 1)), ((1, 1), (0, 3))])]:
            row = self.assert_round_row(fan, row_product(fan, glues))
            self.assertIn(row, due)

    def test_all_small_turnings(self):
        for fan in FANS + [some_fan(4, 2), some_fan(5, 3)]:
            table = table_of(fan)
            for word in short_words(11):
                if walked(table, word) == 0:
                    self.assert_round_row(fan, spelled(word))
                else:
                    self.assert_refused(NotIn, round_row, fan, spelled(word))

    def test_rows_of_larger_fans(self):
        for seed, fan in enumerate(FANS * 3 + big_fans(4)):
            for at in range(6):
                self.assert_round_row(fan, row_product(fan, some_short_row(fan, at + 1, 4, 10 * seed + at)))
                inner = some_short_row(fan, at, 3, seed + at)
                by = row_product(fan, some_row(fan, 3, 3, seed))
                self.assert_round_row(fan, conjugate(row_product(fan, inner), by))

    def test_long_words(self):
        for seed in range(3):
            word = long_word(999, seed)
            for inner in ["s", "r", "q"]:
                if word[-1] != "s" or inner != "s":
                    one = conjugate(spelled(inner), undone(spelled(word)))
                    row = self.assert_round_row(TWO, one)
                    self.assertEqual(len(row), 1)
        self.assertEqual(self.assert_round_row(PAIRS, (1, 1000, 0, 1))[0][1] in (500, -500), True)

    def test_too_long_ahead_of_not_in(self):
        for fan in [FOUR, FIVE, PAIRS, BOTH_THIRDS]:
            for many in [1001, 1002, 1003, 10 ** 12 - 1, whole_of(300, 7)]:
                for one in [(1, many, 0, 1), (1, -many, 0, 1), (1, 0, many, 1), (many, -1, 1, 0)]:
                    self.assert_refused(TooLong, round_row, fan, one)
        for seed in range(4):
            for many in [2001, 2002]:
                self.assert_refused(TooLong, round_row, FOUR, spelled(long_word(many, seed)))

    def test_not_in(self):
        for fan, one in [(FOUR, (1, 1, 0, 1)), (FOUR, HALF), (BOTH_THIRDS, HALF), (PAIRS, THIRD), (THREE, THIRD)]:
            self.assert_refused(NotIn, round_row, fan, one)

    def test_nothing_is_changed(self):
        self.assert_unchanged(round_row, FOUR, row_product(FOUR, ((0, 3), (1, 1), (0, -1))))


class AlikeIn(Rounds, Exact, unittest.TestCase):
    def test_by_hand(self):
        self.assert_alike(TWO, NOTHING, NOTHING)
        self.assert_alike(TWO, HALF, conjugate(HALF, (5, 2, 7, 3)))
        self.assert_unlike(TWO, THIRD, undone(THIRD))
        self.assert_told(alike_in(TWO, THIRD, HALF)[0], "unlike")
        self.assert_told(alike_in(TWO, NOTHING, HALF), ("unlike", (), ((0, 1),)))
        self.assert_told(alike_in(TWO, HALF, NOTHING), ("unlike", ((0, 1),), ()))
        self.assert_told(alike_in(FOUR, (1, 2, 0, 1), (1, 8, 0, 1)), ("unlike", ((0, 1),), ((0, 4),)))
        self.assert_told(alike_in(FOUR, (1, 2, 0, 1), (1, -2, 0, 1)), ("unlike", ((0, 1),), ((0, -1),)))

    def test_rows_by_hand(self):
        for fan, one, other, due in [
                (FOUR, ((0, 1), (1, 1)), ((1, 1), (0, 1)), True),
                (FOUR, ((0, 1), (1, 1), (0, 2), (2, 1)), ((0, 2), (2, 1), (0, 1), (1, 1)), True),
                (FOUR, ((0, 1), (1, 1), (0, 2), (2, 1)), ((0, 1), (2, 1), (0, 2), (1, 1)), False),
                (FOUR, ((2, 1),), ((2, 2),), False), (FOUR, ((1, 1),), ((2, 1),), False),
                (FOUR, ((0, 1), (2, 1)), ((0, 1), (2, 2)), False),
                (FOUR, ((0, 3), (1, 1), (0, -1)), ((1, 1), (0, 2)), True),
                (PAIRS, ((0, 1), (1, 1), (0, -1)), ((2, 1), (1, 1), (2, -1)), True),
                (PAIRS, ((0, 1), (1, 1)), ((0, 1), (1, -1)), False), (PAIRS, ((0, 1),), ((0, -1),), False),
                (PAIRS, ((0, 1), (1, 1)) * 3, ((0, 1), (1, 1)) * 2, False),
                (PAIRS, ((0, 1), (1, 1), (2, 1)), ((2, 1), (1, 1), (0, 1)), False),
                (PAIRS, ((0, 1), (1, 1), (2, 1)), ((2, 1), (0, 1), (1, 1)), True),
                (PAIRS, ((0, 1), (1, 1), (0, 1), (2, 1)), ((0, 1), (2, 1), (0, 1), (1, 1)), True)]:
            ones = row_product(fan, one), row_product(fan, other)
            self.assertEqual(self.assert_alike_or_not(fan, *ones), due, (one, other))
            self.assertEqual(self.assert_alike_or_not(fan, *ones[::-1]), due, (other, one))

    def test_all_small_turnings_tried_by_hand(self):
        # Whatever some small turning of the group leads to one another is told alike, and all that is told so is tried.
        for fan in [TWO, BOTH_THIRDS, THREE, some_fan(3, 4), some_fan(3, 9)]:
            table = table_of(fan)
            group = [spelled(word) for word in short_words(9) if walked(table, word) == 0]
            ones = [one for one in group if max(map(abs, one)) < 4]
            for one, other in itertools.product(ones, repeat=2):
                told = self.assert_alike_or_not(fan, one, other)
                if not told:
                    self.assertNotIn(other, [conjugate(one, by) for by in group])

    def test_turned_by_the_group(self):
        for seed, fan in enumerate(FANS * 4 + big_fans(4)):
            for at in range(4):
                one = row_product(fan, some_short_row(fan, at, 3, seed + at))
                by = row_product(fan, some_short_row(fan, 3, 3, seed + 9 * at))
                self.assert_alike(fan, one, conjugate(one, by))
                self.assert_alike(fan, conjugate(one, by), one)
                self.assert_alike(fan, one, one)

    def test_rows_turned_about(self):
        for seed, fan in enumerate(FANS * 2 + big_fans(2)):
            row = some_short_row(fan, 8, 2, seed)
            for at in range(len(row)):
                self.assert_alike(fan, row_product(fan, row), row_product(fan, row[at:] + row[:at]))

    def test_other_turnings(self):
        found = {True: 0, False: 0}
        for seed in range(300):
            chance = random.Random(seed)
            fan = chance.choice(FANS + [some_fan(6, seed)])
            one, other = (row_product(fan, some_short_row(fan, 4, 1, chance.random())) for count in range(2))
            found[self.assert_alike_or_not(fan, one, other)] += 1
        self.assertGreater(min(found.values()), 10)

    def test_alike_all_over_but_not_in_the_group(self):
        # In all turnings these are alike by a turning that is not of the group.
        for seed, fan in enumerate(FANS[1:] + big_fans(2)):
            ones = [glue_of(fan, gap) for gap in range(len(fan[0])) if fan[1][gap] == "half"]
            for one, other in itertools.combinations(ones, 2):
                self.assert_unlike(fan, one, other)

    def test_powers_are_unlike(self):
        for fan in FANS[2:]:
            gap = [mark for mark in fan[1] if type(mark) is int][0]
            one = glue_of(fan, gap)
            powers = [product(*[one] * power) for power in range(1, 5)] + [undone(one)]
            for first, second in itertools.permutations(powers, 2):
                self.assert_unlike(fan, first, second)

    def test_the_first_ones_refusals_ahead(self):
        far, out = (1, 10 ** 12 - 1, 0, 1), (1, 1, 0, 1)
        for one, other, due in [
                (far, out, TooLong), (out, far, NotIn), (far, NOTHING, TooLong), (NOTHING, far, TooLong),
                (out, NOTHING, NotIn), (NOTHING, out, NotIn), (far, far, TooLong), (out, out, NotIn)]:
            for fan in [FOUR, PAIRS, FIVE]:
                self.assert_refused(due, alike_in, fan, one, other)

    def test_long_words(self):
        begun = time.monotonic()
        word = long_word(900, 4)
        for inner in ["s", "r", "rsqs", "rsrsqs", ""]:
            one = conjugate(spelled(inner), undone(spelled(word)))
            self.assert_alike(TWO, spelled(inner), one)
            self.assert_alike(TWO, one, spelled(inner))
        self.assert_alike(TWO, spelled("rs" * 500 + "qs" * 490), spelled("qs" * 490 + "rs" * 500))
        self.assert_unlike(TWO, spelled("rs" * 500 + "qs" * 490), spelled("qs" * 491 + "rs" * 499))
        self.assert_alike(TWO, spelled("rs" * 1000), spelled("sr" * 1000))
        self.assertLess(time.monotonic() - begun, 20)

    def test_nothing_is_changed(self):
        self.assert_unchanged(alike_in, FOUR, (1, 2, 0, 1), (1, 8, 0, 1))
        self.assert_unchanged(alike_in, TWO, HALF, conjugate(HALF, (5, 2, 7, 3)))


if __name__ == "__main__":
    unittest.main()
