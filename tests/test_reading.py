"""Turnings read along fans: promise [12], what [3] says of it, and [2] as it holds for it."""

import unittest

from fanglue.errors import TooLong
from fanglue.places import table_of
from fanglue.reading import read
from fanglue.words import word_of
from reckoned import (
    BOTH_THIRDS, FANS, FIVE, FOUR, HALF, LETTERS, NOTHING, THREE, TWO, big_fans, glue_of, is_due_short, long_word,
    product, row_product, short_words, small_fans, some_fan, some_row, some_short_row, spelled, undone, walked)
from things import Exact, whole_of


class Read(Exact, unittest.TestCase):
    def assert_read(self, fan, word, table):
        """The word's turning is read as the row that it is, or told where the word leads."""
        told = read(fan, spelled(word))
        place = walked(table, word)
        if place == 0:
            self.assertEqual(told[0], "in")
            self.assertTrue(is_due_short(fan, told[1]), told)
            self.assert_told(row_product(fan, told[1]), spelled(word))
        else:
            self.assert_told(told, ("out", place))

    def test_all_small_fans_and_words(self):
        for fan in small_fans(4):
            table = table_of(fan)
            for word in short_words(6):
                self.assert_read(fan, word, table)

    def test_all_words_of_more_letters(self):
        for fan in FANS:
            table = table_of(fan)
            for word in short_words(13):
                self.assert_read(fan, word, table)

    def test_each_turning_of_the_group_is_read_in_just_one_way(self):
        for fan in FANS:
            told = {}
            for word in short_words(13):
                kind, what = read(fan, spelled(word))
                if kind == "in":
                    self.assertNotIn(what, told)
                    told[what] = word
            self.assertGreater(len(told), 3)

    def test_nothing_is_in_by_no_glue(self):
        for fan in list(small_fans(5)) + big_fans(4):
            self.assert_told(read(fan, NOTHING), ("in", ()))

    def test_each_glue_by_itself(self):
        for fan in list(small_fans(5)) + big_fans(4):
            for gap, mark in enumerate(fan[1]):
                due = ((mark, -1),) if type(mark) is int and mark < gap else ((gap, 1),)
                self.assert_told(read(fan, glue_of(fan, gap)), ("in", due))
                if mark == "third":
                    self.assert_told(read(fan, undone(glue_of(fan, gap))), ("in", ((gap, 2),)))

    def test_short_rows_are_read_again(self):
        for seed, fan in enumerate(FANS * 5 + big_fans(8)):
            row = some_short_row(fan, 1 + seed % 24, 2, seed)
            one = row_product(fan, row)
            self.assert_told(read(fan, one), ("in", row))

    def test_rows_with_great_powers(self):
        for seed, fan in enumerate(FANS * 3 + big_fans(3)):
            row = some_short_row(fan, 2, 40, seed)
            one = row_product(fan, row)
            if max(abs(part) for part in one) < 10 ** 9 or row == ():
                self.assert_told(read(fan, one), ("in", row))

    def test_a_glue_ahead_does_not_change_the_place(self):
        for seed, fan in enumerate(FANS * 2 + big_fans(4)):
            table = table_of(fan)
            one = row_product(fan, some_row(fan, 4, 2, seed))
            for word in short_words(4):
                told = read(fan, product(one, spelled(word)))
                place = walked(table, word)
                self.assertEqual(told[0], "out" if place else "in")
                if place:
                    self.assert_told(told, ("out", place))

    def test_by_hand(self):
        for fan, one, due in [
                (TWO, HALF, ("in", ((0, 1),))), (TWO, LETTERS["r"], ("in", ((1, 1),))),
                (TWO, LETTERS["q"], ("in", ((1, 2),))), (TWO, (1, 1, 0, 1), ("in", ((1, 2), (0, 1)))),
                (TWO, (1, -1, 0, 1), ("in", ((0, 1), (1, 1)))), (BOTH_THIRDS, HALF, ("out", 1)),
                (BOTH_THIRDS, LETTERS["r"], ("in", ((1, 1),))), (BOTH_THIRDS, (1, 1, 0, 1), ("out", 1)),
                (BOTH_THIRDS, (1, 2, 0, 1), ("in", ((1, 2), (0, 2)))), (THREE, HALF, ("in", ((0, 1),))),
                (THREE, LETTERS["r"], ("out", 1)), (THREE, LETTERS["q"], ("out", 2)), (THREE, (1, 1, 0, 1), ("out", 1)),
                (THREE, (1, 2, 0, 1), ("in", ((1, 1), (0, 1)))), (FOUR, (1, 2, 0, 1), ("in", ((0, 1),))),
                (FOUR, (1, -2, 0, 1), ("in", ((0, -1),))), (FOUR, (1, 60, 0, 1), ("in", ((0, 30),))),
                (FOUR, (1, 61, 0, 1), ("out", 3)), (FOUR, HALF, ("out", 1)), (FOUR, LETTERS["r"], ("out", 2))]:
            with self.subTest(fan=fan, one=one):
                self.assert_told(read(fan, one), due)

    def test_the_last_gap_ends_at_nought(self):
        for marks in [("half", 2, 1), (1, 0, "half"), ("third", "half", "third"), (2, "third", 0)]:
            fan = (((1, 0), (-1, 1), (0, 1)), marks)
            table = table_of(fan)
            for word in short_words(9):
                self.assert_read(fan, word, table)

    def test_two_thousand_letters(self):
        for seed, fan in enumerate(FANS + big_fans(1)):
            table = table_of(fan)
            self.assert_read(fan, long_word(2000, seed), table)
            self.assert_read(fan, ["qs" * 1000, "sr" * 1000, "rs" * 1000, "sq" * 1000][seed % 4], table)

    def test_more_than_two_thousand_letters(self):
        for seed, fan in enumerate(FANS + big_fans(1)):
            for word in ["qs" * 1000 + "q", "s" + "qs" * 1000, "sr" * 1001, "rs" * 1100, long_word(2001, seed),
                         long_word(2500, seed)]:
                self.assert_refused(TooLong, read, fan, spelled(word))

    def test_steps_along_an_end(self):
        for fan in FANS + [some_fan(22, 3), some_fan(9, 2)]:
            table = table_of(fan)
            for many in [1, 999, 1000]:
                self.assert_read(fan, "qs" * many, table)
                self.assert_read(fan, "rs" * many, table)
            for many in [1001, 1002, 10 ** 6, 10 ** 12 - 1, 10 ** 12, whole_of(300, 7)]:
                for one in [(1, many, 0, 1), (1, -many, 0, 1), (1, 0, many, 1), (-1, 0, many, -1)]:
                    self.assert_refused(TooLong, read, fan, one)
            for one in [(1, 1000, 0, 1), (1, 0, 1000, 1)]:
                self.assertIn(read(fan, one)[0], ["in", "out"])
                self.assert_refused(TooLong, read, fan, product(HALF, one))
            for one in [(1, 1001, 0, 1), (1, 0, 1001, 1)]:
                self.assert_refused(TooLong, read, fan, product(HALF, one))
            for one in [(1, -1000, 0, 1), (-1, 0, 1000, -1)]:
                self.assertIn(read(fan, product(HALF, one))[0], ["in", "out"])

    def test_long_rows_are_read_or_refused(self):
        for seed, fan in enumerate(FANS * 3 + big_fans(2)):
            row = some_short_row(fan, 24, 9, seed)
            one = row_product(fan, row)
            try:
                word = word_of(one)
            except TooLong:
                word = None
            if word is None:
                self.assert_refused(TooLong, read, fan, one)
            else:
                self.assert_told(read(fan, one), ("in", row))

    def test_nothing_is_changed(self):
        self.assert_unchanged(read, FIVE, (2, 1, 1, 1))
        self.assert_unchanged(read, FOUR, (1, 2, 0, 1))


if __name__ == "__main__":
    unittest.main()
