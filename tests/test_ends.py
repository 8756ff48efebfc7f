"""Ends, points and holes: promises [19], [20] and [21], what [3] says of them, and [2] as it holds for them."""

import fractions
import random
import time
import unittest

from fanglue.ends import end_of, ends, glued_pairs, half_points, holes, third_points
from fanglue.errors import TooLong
from fanglue.places import table_of
from reckoned import (
    ALL, BOTH_THIRDS, EVEN_HALVES, FANS, FIVE, FOUR, FROM_NOUGHT, FROM_ONE, PAIRS, PLAIN_TWO, ROUND_THIRDS, SIX, THREE,
    TWO, big_fans, letters_of, long_word, product, short_words, small_fans, small_tables, some_tables, spelled, undone,
    walked)
from things import Exact, whole_of


def own_rounds(table):
    """The places of each round, rising: each place with all to which s and then r, ever again, leads from it."""
    rounds = []
    for place in range(len(table[0])):
        met = {place}
        for step in range(len(table[0])):
            place = table[1][table[0][place]]
            met.add(place)
        if sorted(met) not in rounds:
            rounds.append(sorted(met))
    return sorted(rounds)


def own_width(table, place):
    return [len(each) for each in own_rounds(table) if place in each][0]


def some_checked():
    across = [(((1, 0),) + tuple((k, 1) for k in range(2 * pairs - 1)),
               tuple((gap + pairs) % (2 * pairs) for gap in range(2 * pairs))) for pairs in range(2, 12)]
    return list(small_tables(6)) + list(some_tables(3)) + [table_of(fan) for fan in FANS + big_fans(2) + across]


class Ends(Exact, unittest.TestCase):
    def test_by_hand(self):
        for table, due in [
                (ALL, [(1, 0)]), (EVEN_HALVES, [(2, 0)]), (ROUND_THIRDS, [(3, 0)]), (SIX, [(6, 0)]),
                (FROM_NOUGHT, [(2, 0), (1, 2)]), (FROM_ONE, [(2, 0), (1, 1)]),
                (PLAIN_TWO, [(2, 0), (2, 1), (2, 4)])]:
            with self.subTest(table=table):
                self.assert_told(ends(table), due)

    def test_rounds(self):
        for table in some_checked():
            self.assert_told(ends(table), [(len(each), each[0]) for each in own_rounds(table)])

    def test_the_widths_together_are_the_places(self):
        for table in some_checked():
            self.assertEqual(sum(width for width, place in ends(table)), len(table[0]))

    def test_each_list_is_new(self):
        for deed in (ends, half_points, third_points):
            for table in [ALL, FROM_NOUGHT, table_of(FOUR)]:
                first = deed(table)
                kept = list(first)
                first.append(7)
                first[0] = None
                self.assert_told(deed(table), kept)
                self.assertIsNot(deed(table), deed(table))

    def test_nothing_is_changed(self):
        for deed in (ends, half_points, third_points, holes):
            self.assert_unchanged(deed, table_of(FIVE))


class Points(Exact, unittest.TestCase):
    def test_by_hand(self):
        for table, half, third in [
                (ALL, [0], [0]), (EVEN_HALVES, [], [0, 1]), (ROUND_THIRDS, [0, 1, 2], []), (SIX, [], []),
                (FROM_NOUGHT, [0], []), (((1, 0, 4, 5, 2, 3, 6), (2, 3, 5, 6, 4, 0, 1)), [6], [4])]:
            self.assert_told(half_points(table), half)
            self.assert_told(third_points(table), third)

    def test_places_led_to_themselves(self):
        for table in some_checked():
            places = range(len(table[0]))
            self.assert_told(half_points(table), [place for place in places if table[0][place] == place])
            self.assert_told(third_points(table), [place for place in places if table[1][place] == place])

    def test_marks_of_fans(self):
        for fan in list(small_fans(4)) + big_fans(3):
            table = table_of(fan)
            self.assertEqual(len(half_points(table)), fan[1].count("half"))
            self.assertEqual(len(third_points(table)), fan[1].count("third"))


class Holes(Exact, unittest.TestCase):
    def test_by_hand(self):
        for table, due in [(ALL, 0), (EVEN_HALVES, 0), (ROUND_THIRDS, 0), (SIX, 1), (FROM_NOUGHT, 0)]:
            self.assert_told(holes(table), due)

    def test_reckoned(self):
        found = set()
        for table in some_checked():
            halves, thirds = table
            part = fractions.Fraction
            due = 1 + part(len(halves), 12) - part(len(own_rounds(table)), 2)
            for place in range(len(halves)):
                due -= part(halves[place] == place, 4) + part(thirds[place] == place, 3)
            self.assertEqual(due.denominator, 1)
            self.assert_told(holes(table), int(due))
            found.add(int(due))
        self.assertLessEqual({0, 1, 2, 3, 4, 5}, found)
        self.assertGreaterEqual(min(found), 0)

    def test_glued_pairs_by_hand(self):
        for fan, due in [(TWO, 0), (BOTH_THIRDS, 0), (THREE, 1), (FOUR, 1), (FIVE, 1), (PAIRS, 3)]:
            self.assert_told(glued_pairs(fan), due)

    def test_glued_pairs_counted(self):
        for fan in list(small_fans(4)) + big_fans(6):
            self.assert_told(glued_pairs(fan), sum(type(mark) is int for mark in fan[1]) // 2)

    def test_glued_pairs_are_twice_the_holes_and_the_ends_less_one(self):
        for fan in list(small_fans(5)) + big_fans(6):
            table = table_of(fan)
            self.assertEqual(glued_pairs(fan), 2 * holes(table) + len(own_rounds(table)) - 1)

    def test_nothing_is_changed(self):
        self.assert_unchanged(glued_pairs, PAIRS)


def top_led(word):
    """The fraction to which the word leads 1/0."""
    a, b, c, d = spelled(word)
    return (a, c)


def at_an_end(word):
    """A short word with this one ahead: no shorter one leads 1/0 to the same fraction, as none steps back from q."""
    return word + ("q" if word.endswith("s") else "sq")


def due_end(table, word):
    one = spelled(word)
    width = own_width(table, walked(table, word))
    return (width, product(one, (1, width, 0, 1), undone(one)))


class EndOf(Exact, unittest.TestCase):
    def test_by_hand(self):
        for table, fraction, due in [
                (ALL, (1, 0), (1, (1, 1, 0, 1))), (ALL, (0, 1), (1, (-1, 0, 1, -1))),
                (SIX, (1, 0), (6, (1, 6, 0, 1))), (SIX, (0, 1), (6, (-1, 0, 6, -1))),
                (FROM_NOUGHT, (1, 0), (2, (1, 2, 0, 1))), (FROM_NOUGHT, (0, 1), (2, (-1, 0, 2, -1))),
                (FROM_NOUGHT, (1, 1), (1, (0, -1, 1, -2))), (FROM_NOUGHT, (-1, 1), (1, (-2, -1, 1, 0)))]:
            with self.subTest(table=table, fraction=fraction):
                self.assert_told(end_of(table, fraction), due)

    def test_all_small_words(self):
        tables = [ALL, EVEN_HALVES, ROUND_THIRDS, SIX, FROM_NOUGHT, table_of(FOUR), table_of(FIVE), table_of(PAIRS)]
        for word in short_words(9):
            for table in tables:
                self.assert_told(end_of(table, top_led(word)), due_end(table, word))

    def test_larger_tables(self):
        for seed, table in enumerate(some_tables(2)):
            for at in range(6):
                word = long_word(3 * at + seed % 5, seed + at)
                self.assert_told(end_of(table, top_led(word)), due_end(table, word))

    def test_of_either_sign_and_twelve_figures(self):
        for seed in range(40):
            chance = random.Random(seed)
            table = list(some_tables(1))[seed]
            p, q = chance.randrange(-10 ** 12, 10 ** 12), chance.randrange(1, 10 ** 12)
            told = fractions.Fraction(p, q)
            p, q = told.numerator, told.denominator
            width, one = end_of(table, (p, q))
            self.assert_keeps(table, (p, q), width, one)

    def assert_keeps(self, table, fraction, width, one):
        """The turning is the least power of the one step that keeps the fraction which is of the group."""
        p, q = fraction
        step = product((1 - p * q, p * p, -q * q, 1 + p * q))
        self.assertEqual(one, product(*[step] * width))
        for power in range(1, width + 1):
            place = walked(table, letters_of(product(*[step] * power)))
            self.assertEqual(place == 0, power == width)

    def test_no_lesser_power_is_of_the_group(self):
        for table in list(some_tables(1))[::3] + [FROM_NOUGHT, SIX]:
            for fraction in [(1, 0), (0, 1), (1, 1), (-1, 1), (2, 1), (1, 2), (-3, 2), (5, 7), (-13, 8), (99, 70)]:
                self.assert_keeps(table, fraction, *end_of(table, fraction))

    def test_words_to_nineteen_hundred_letters(self):
        table = table_of(FIVE)
        words = [at_an_end(long_word(1898 - seed, seed)) for seed in range(5)]
        for word in words + ["q" + "sq" * 949, "sq" * 950, "sr" * 949 + "sq", "rs" * 949 + "q"]:
            self.assertIn(len(word), range(1890, 1901))
            self.assert_told(end_of(table, top_led(word)), due_end(table, word))
        for many in [1, 2, 500, 949, 950]:
            for fraction, word in [((many, 1), "qs" * (many - 1) + "q"), ((-many, 1), "sr" * (many - 1) + "sq"),
                                   ((1, many), "rs" * (many - 1) + "q")]:
                self.assertEqual(top_led(word), fraction)
                self.assert_told(end_of(table, fraction), due_end(table, word))

    def test_more_than_two_thousand_letters(self):
        for table in [ALL, SIX, table_of(FOUR)]:
            for seed, many in enumerate([2000, 2000, 2001, 2002, 2050, 3000, 5000]):
                self.assert_refused(TooLong, end_of, table, top_led(at_an_end(long_word(many, seed))))

    def test_far_along_at_once(self):
        begun = time.monotonic()
        for many in [1001, 1002, 1100, 10 ** 6, 10 ** 11, 10 ** 12 - 1]:
            for fraction in [(many, 1), (-many, 1), (1, many + 1), (-1, many + 1), (many - 1, many), (1 - many, many),
                             (2 * many + 1, 2), (-2 * many - 1, 2), (3 * many - 1, 3), (2, 2 * many + 3),
                             (many + 1, many), (-many - 1, many)]:
                if many > 1100 or 1 in fraction:
                    self.assert_refused(TooLong, end_of, SIX, fraction)
        self.assert_refused(TooLong, end_of, SIX, (whole_of(300, 1), 1))
        self.assertLess(time.monotonic() - begun, 5)

    def test_between_either_is_let(self):
        table = table_of(FOUR)
        for many in range(951, 1001, 7):
            word = "qs" * (many - 1) + "q"
            try:
                told = end_of(table, (many, 1))
            except TooLong:
                continue
            self.assert_told(told, due_end(table, word))

    def test_figures_without_end_where_the_word_is_short(self):
        for seed in range(5):
            word = at_an_end(long_word(1700, seed))
            fraction = top_led(word)
            self.assertGreater(len(str(fraction[1])), 120)
            self.assert_told(end_of(SIX, fraction), due_end(SIX, word))

    def test_nothing_is_changed(self):
        self.assert_unchanged(end_of, FROM_NOUGHT, (5, 7))


if __name__ == "__main__":
    unittest.main()
