"""Several groups: promise [18], what [3] says of them, and [2] as it holds for them."""

import random
import time
import unittest

from fanglue.errors import TooLong, TooMany
from fanglue.places import table_of
from fanglue.several import alike_at, core, is_within, meet, turned
from reckoned import (
    ALL, EVEN_HALVES, FANS, FROM_NOUGHT, FROM_ONE, FROM_TWO, HALF, NOTHING, PLAIN_TWO, ROUND_THIRDS, SIX, THIRD,
    big_fans, both, is_own_table, letters_of, long_word, product, short_words, small_tables, some_table, some_tables,
    spelled, telling_words, told_anew, undone, walked)
from things import Exact, whole_of


def own_core(table):
    """The meet of the table turned in all ways, one by one; None, where there are too many places."""
    told = ALL
    for place in range(len(table[0])):
        told = both(told, told_anew(*table, place))
        if told is None:
            return None
    return told


class Meet(Exact, unittest.TestCase):
    def assert_meet(self, one, other):
        due = both(one, other)
        if due is None:
            self.assert_refused(TooMany, meet, one, other)
            self.assert_refused(TooMany, meet, other, one)
        else:
            self.assert_told(meet(one, other), due)
            self.assert_told(meet(other, one), due)

    def test_by_hand(self):
        for one, other, due in [
                (ALL, ALL, ALL), (ALL, FROM_NOUGHT, FROM_NOUGHT), (EVEN_HALVES, ROUND_THIRDS, SIX), (SIX, SIX, SIX),
                (ROUND_THIRDS, SIX, SIX),
                (FROM_NOUGHT, FROM_ONE, PLAIN_TWO), (FROM_TWO, FROM_NOUGHT, PLAIN_TWO),
                (FROM_ONE, FROM_TWO, PLAIN_TWO)]:
            self.assert_told(meet(one, other), due)
            self.assert_told(meet(other, one), due)

    def test_all_small_tables(self):
        tables = list(small_tables(6))
        for one in tables:
            for other in tables:
                self.assert_meet(one, other)

    def test_larger_tables(self):
        for seed in range(150):
            chance = random.Random(seed)
            self.assert_meet(some_table(chance.randint(1, 15), seed), some_table(chance.randint(1, 15), seed + 500))

    def test_places_of_one_table(self):
        for table in list(some_tables(1))[::4] + [table_of(fan) for fan in FANS]:
            for place in range(0, len(table[0]), 5):
                self.assert_meet(table, told_anew(*table, place))

    def test_sixty_places_and_more(self):
        found = set()
        for one, other in [(3, 20), (4, 15), (5, 12), (6, 10), (7, 9), (8, 8), (1, 60), (2, 31), (60, 60), (59, 60)]:
            for seed in range(12):
                ones = some_table(one, seed), some_table(other, seed + 77)
                due = both(*ones)
                found.add(due and len(due[0]))
                self.assert_meet(*ones)
        self.assertLessEqual({None, 60}, found)

    def test_what_lies_in_a_meet(self):
        words = list(short_words(9))
        for seed in range(30):
            one, other = some_table(2 + seed % 6, seed), some_table(2 + seed % 7, seed + 900)
            try:
                told = meet(one, other)
            except TooMany:
                self.assertGreater(len(one[0]) * len(other[0]), 60)
                continue
            for word in words:
                inside = walked(one, word) == 0 and walked(other, word) == 0
                self.assertIs(walked(told, word) == 0, inside)

    def test_laws(self):
        tables = list(small_tables(4)) + [SIX]
        for one in tables:
            self.assert_told(meet(one, one), one)
            self.assert_told(meet(one, ALL), one)
            for other in tables:
                for last in tables[::3]:
                    if both(one, other) and both(other, last) and both(both(one, other), last):
                        self.assert_told(meet(meet(one, other), last), meet(one, meet(other, last)))

    def test_too_many_at_once(self):
        begun = time.monotonic()
        for seed in range(40):
            self.assert_refused(TooMany, meet, some_table(60, seed), some_table(59, seed))
        self.assertLess(time.monotonic() - begun, 5)

    def test_nothing_is_changed(self):
        self.assert_unchanged(meet, EVEN_HALVES, ROUND_THIRDS)


class IsWithin(Exact, unittest.TestCase):
    def assert_within(self, one, other):
        due = all(walked(other, word) == 0 for word in telling_words(one))
        self.assert_told(is_within(one, other), due)
        self.assert_told(both(one, other) == one, due)
        return due

    def test_by_hand(self):
        for one, other, due in [
                (ALL, ALL, True), (SIX, ALL, True), (ALL, SIX, False), (SIX, EVEN_HALVES, True),
                (SIX, ROUND_THIRDS, True), (EVEN_HALVES, ROUND_THIRDS, False), (ROUND_THIRDS, EVEN_HALVES, False),
                (EVEN_HALVES, SIX, False), (SIX, FROM_NOUGHT, False), (FROM_NOUGHT, FROM_ONE, False),
                (PLAIN_TWO, FROM_NOUGHT, True), (PLAIN_TWO, FROM_TWO, True), (SIX, PLAIN_TWO, False)]:
            self.assert_told(is_within(one, other), due)

    def test_all_small_tables(self):
        tables = list(small_tables(6))
        found = [self.assert_within(one, other) for one in tables for other in tables]
        self.assertGreater(found.count(True), 2 * len(tables))

    def test_meets_lie_within(self):
        for seed in range(60):
            one, other = some_table(1 + seed % 8, seed), some_table(1 + seed % 7, seed + 300)
            told = both(one, other)
            if told is not None:
                for outer in (one, other, ALL, told):
                    self.assert_told(is_within(told, outer), True)
                self.assert_told(is_within(one, told), told == one)

    def test_larger_tables(self):
        for table in list(some_tables(1))[::3]:
            for other in [ALL, table, told_anew(*table, len(table[0]) - 1), some_table(len(table[0]), 3), SIX]:
                self.assert_within(table, other)
                self.assert_within(other, table)

    def test_nothing_is_changed(self):
        self.assert_unchanged(is_within, SIX, EVEN_HALVES)
        self.assert_unchanged(is_within, FROM_NOUGHT, SIX)


class Turned(Exact, unittest.TestCase):
    def test_by_hand(self):
        for table, one, due in [
                (ALL, THIRD, ALL), (FROM_NOUGHT, NOTHING, FROM_NOUGHT), (FROM_NOUGHT, HALF, FROM_NOUGHT),
                (FROM_NOUGHT, THIRD, FROM_ONE), (FROM_NOUGHT, undone(THIRD), FROM_TWO), (SIX, (5, 2, 7, 3), SIX)]:
            self.assert_told(turned(table, one), due)

    def test_numbered_from_the_place_on(self):
        for seed, table in enumerate(list(some_tables(1)) + [table_of(fan) for fan in FANS + big_fans(1)]):
            for at in range(8):
                word = long_word(at * 5, seed + at)
                due = told_anew(*table, walked(table, word))
                self.assert_told(turned(table, spelled(word)), due)
                self.assertTrue(is_own_table(due))

    def test_what_lies_in_a_turned_group(self):
        words = list(short_words(7))
        for seed in range(25):
            table = some_table(1 + 2 * seed, seed)
            word = long_word(1 + seed % 9, seed)
            back = undone(spelled(word))
            told = turned(table, spelled(word))
            for inner in telling_words(table):
                one = product(back, spelled(inner), spelled(word))
                self.assert_told(walked(told, letters_of(one)), 0)
            for other in words:
                inside = walked(table, word + other + letters_of(back)) == 0
                self.assertIs(walked(told, other) == 0, inside)

    def test_one_behind_the_other(self):
        for seed, table in enumerate(some_tables(1)):
            one, other = spelled(long_word(20, seed)), spelled(long_word(17, seed + 1))
            self.assert_told(turned(turned(table, one), other), turned(table, product(one, other)))
            self.assert_told(turned(turned(table, one), undone(one)), table)
            self.assert_told(turned(turned(table, undone(one)), one), table)
            self.assert_told(turned(table, NOTHING), table)

    def test_two_thousand_letters_and_more(self):
        table = some_table(13, 4)
        for word in ["qs" * 1000, "sr" * 1000, long_word(2000, 3), long_word(1999, 4)]:
            self.assert_told(turned(table, spelled(word)), told_anew(*table, walked(table, word)))
        for word in ["qs" * 1000 + "q", "sr" * 1000 + "s", long_word(2001, 3), long_word(4000, 4)]:
            self.assert_refused(TooLong, turned, table, spelled(word))
            self.assert_refused(TooLong, turned, ALL, spelled(word))

    def test_too_long_at_once(self):
        begun = time.monotonic()
        for many in [1001, 10 ** 6, 5 * 10 ** 11, 10 ** 12 - 1, whole_of(300, 2)]:
            for one in [(1, many, 0, 1), (1, -many, 0, 1), (1, 0, many, 1), (-1, 0, many, -1), (many, -1, 1, 0)]:
                self.assert_refused(TooLong, turned, SIX, one)
        self.assertLess(time.monotonic() - begun, 5)

    def test_nothing_is_changed(self):
        self.assert_unchanged(turned, FROM_NOUGHT, THIRD)


class AlikeAt(Exact, unittest.TestCase):
    def assert_alike(self, one, other):
        due = [place for place in range(len(one[0])) if told_anew(*one, place) == other]
        self.assert_told(alike_at(one, other), due[0] if due else None)
        return bool(due)

    def test_by_hand(self):
        for one, other, due in [
                (ALL, ALL, 0), (SIX, SIX, 0), (FROM_NOUGHT, FROM_ONE, 1), (FROM_NOUGHT, FROM_TWO, 2),
                (FROM_ONE, FROM_NOUGHT, 2), (FROM_TWO, FROM_NOUGHT, 2), (FROM_TWO, FROM_ONE, 1), (SIX, PLAIN_TWO, None),
                (FROM_NOUGHT, ROUND_THIRDS, None), (ALL, SIX, None), (SIX, ALL, None)]:
            self.assert_told(alike_at(one, other), due)

    def test_all_small_tables(self):
        tables = list(small_tables(6))
        found = [self.assert_alike(one, other) for one in tables for other in tables]
        self.assertEqual({True, False}, set(found))

    def test_each_place_of_larger_ones(self):
        for table in list(some_tables(1))[::5] + [table_of(fan) for fan in FANS]:
            for place in range(len(table[0])):
                other = told_anew(*table, place)
                self.assertTrue(self.assert_alike(table, other))
                self.assertTrue(self.assert_alike(other, table))
            for seed in range(5):
                self.assert_alike(table, some_table(len(table[0]), seed))

    def test_turned_ones_are_alike(self):
        for seed, table in enumerate(some_tables(1)):
            other = turned(table, spelled(long_word(25, seed)))
            place = alike_at(table, other)
            self.assertEqual(told_anew(*table, place), other)

    def test_nothing_is_changed(self):
        self.assert_unchanged(alike_at, FROM_NOUGHT, FROM_TWO)
        self.assert_unchanged(alike_at, FROM_NOUGHT, SIX)


class Core(Exact, unittest.TestCase):
    def assert_core(self, table):
        due = own_core(table)
        if due is None:
            self.assert_refused(TooMany, core, table)
            return None
        self.assert_told(core(table), due)
        for place in range(len(due[0])):
            self.assertEqual(told_anew(*due, place), due)
        self.assertTrue(all(walked(table, word) == 0 for word in telling_words(due)))
        self.assert_told(core(due), due)
        return len(due[0])

    def test_by_hand(self):
        # All six orders of the three places come: the core is all that leads each place to itself.
        for table, due in [(ALL, ALL), (EVEN_HALVES, EVEN_HALVES), (ROUND_THIRDS, ROUND_THIRDS), (SIX, SIX),
                           (FROM_NOUGHT, PLAIN_TWO), (FROM_ONE, PLAIN_TWO)]:
            self.assert_told(core(table), due)

    def test_all_small_tables(self):
        found = {self.assert_core(table) for table in small_tables(7)}
        self.assertLessEqual({1, 2, 3, 6, 12, 24, 60, None}, found)

    def test_larger_tables(self):
        for table in list(some_tables(1)) + [table_of(fan) for fan in FANS + big_fans(1)]:
            self.assert_core(table)

    def test_the_same_however_turned(self):
        for table in small_tables(5):
            for place in range(len(table[0])):
                if own_core(table) is not None:
                    self.assert_told(core(told_anew(*table, place)), core(table))

    def test_too_many_at_once(self):
        begun = time.monotonic()
        for seed in range(40):
            self.assert_refused(TooMany, core, some_table(60, seed))
        self.assertLess(time.monotonic() - begun, 5)

    def test_nothing_is_changed(self):
        self.assert_unchanged(core, FROM_NOUGHT)


if __name__ == "__main__":
    unittest.main()
