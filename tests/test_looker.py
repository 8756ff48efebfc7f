"""The looker: promise [28], what [3] says of papers, and [2] as it holds for them."""

import itertools
import random
import time
import unittest

from fanglue.errors import NoPaper
from fanglue.looker import looked
from fanglue.places import table_of, word_to
from fanglue.reading import read
from fanglue.rests import judged
from reckoned import (
    ALL, EVEN_HALVES, FANS, FIVE, FOUR, FROM_NOUGHT, FROM_ONE, HALF, NOTHING, PAIRS, PLAIN_TWO, SIX, THIRD, THREE, TWO,
    big_fans, letters_of, long_word, product, row_product, short_form, short_words, small_fans, small_tables, some_fan,
    some_short_row, some_table, some_tables, spelled, told_anew, undone, walked)
from things import NO_NUMBERS, OTHER_THINGS, Exact, nested, whole_of

# A table of seven places that is not by rests, with a turning that leaves it: its number is 6.
SEVEN = next(table for table in small_tables(7) if len(table[0]) == 7 and judged(table)[0] == "leaver")
LEAVER = judged(SEVEN)[1]
NOT_FANS = [None, 0, "fan", (), [], FOUR[0], (FOUR[0], FOUR[1][:3]), list(FOUR), (list(FOUR[0]), FOUR[1]),
            (((1, 0), (0, 1)), ("half", "half")), (((1, 0), (0, 1)), (True, False)), SIX]
NOT_TABLES = [None, 0, "half", (), [], SIX[0], list(SIX), (list(SIX[0]), SIX[1]), SIX[::-1], (SIX[0][:5], SIX[1]),
              ((False,), (0,)), ((None,), (None,)), FOUR]
NOT_TURNINGS = [None, 0, "1 0 0 1", (), (1, 0, 0), (1, 0, 0, 2), (-1, 0, 0, -1), (0, 1, -1, 0), [1, 0, 0, 1],
                (True, 0, 0, 1), (1, False, 0, 1), (1, 0, 0, 1, 0)]


class Papers(Exact):
    def assert_holds(self, paper):
        self.assertIsNone(looked(paper))

    def assert_fails(self, at, paper):
        with self.assertRaises(NoPaper) as caught:
            looked(paper)
        self.assertIs(type(caught.exception), NoPaper)
        self.assert_told(caught.exception.at, at)

    def assert_looked(self, due, paper):
        """It holds, where None is due, and else it fails there."""
        if due is None:
            self.assert_holds(paper)
        else:
            self.assert_fails(due, paper)


class Forms(Papers, unittest.TestCase):
    def test_other_things(self):
        for thing in OTHER_THINGS + NOT_FANS + NOT_TABLES + NOT_TURNINGS + NO_NUMBERS + [FOUR, SIX, "in", "same"]:
            self.assert_fails(1, thing)

    def test_other_forms(self):
        papers = [("in", FOUR, NOTHING, ()), ("out", SIX, "s", 1), ("same", FOUR, table_of(FOUR)),
                  ("leaver", SEVEN, 6, LEAVER)]
        for paper in papers:
            self.assert_holds(paper)
            for other in [list(paper), paper[:-1], paper + (None,), paper + paper[-1:], paper[1:], (paper,),
                          paper[::-1], nested(paper, 3), (list(paper),), (), str(paper), paper[:1], paper[:2]]:
                self.assert_fails(1, other)
            for word in ["", "In", "in ", "IN", "same ", "outs", "leave", "rests", "closed", "NoPaper", "ins", None, 0,
                         1, True, (), [], ("in",), ["in"], ("same",), FOUR, "sam", "out\n"]:
                self.assert_fails(1, (word,) + paper[1:])
        for word, paper in itertools.product(["in", "out", "same", "leaver"], papers):
            if len(paper) != (3 if word == "same" else 4):
                self.assert_fails(1, (word,) + paper[1:])

    def test_bytes_and_kin_are_no_words(self):
        self.assert_fails(1, (b"in", FOUR, NOTHING, ()))
        self.assert_fails(1, ({}, FOUR, NOTHING, ()))

    def test_any_things_in_any_place(self):
        chance = random.Random(1)
        things = OTHER_THINGS + NOT_FANS + NOT_TABLES + NOT_TURNINGS + [FOUR, SIX, NOTHING, "srs", 6, ((0, 1),)]
        for count in range(4000):
            word = chance.choice(["in", "out", "same", "leaver"])
            paper = (word,) + tuple(chance.choice(things) for at in range(2 if word == "same" else 3))
            try:
                looked(paper)
            except NoPaper as refused:
                self.assertIn(refused.at, range(2, 6))


class Within(Papers, unittest.TestCase):
    def test_by_hand(self):
        for fan, one, glues, due in [
                (FOUR, NOTHING, (), None), (FOUR, (1, 8, 0, 1), ((0, 4),), None),
                (FOUR, (1, -8, 0, 1), ((0, -4),), None),
                (TWO, HALF, ((0, 1),), None), (FOUR, (1, 8, 0, 1), ((0, 3),), 5), (FOUR, (1, 8, 0, 1), (), 5),
                (FOUR, NOTHING, ((0, 4),), 5), (FOUR, (1, 8, 0, 1), ((3, -4),), 4),
                (FOUR, (1, 8, 0, 1), ((0, 3), (0, 1)), 4),
                (TWO, HALF, ((0, -1),), 4), (TWO, HALF, ((0, 3),), 4), (TWO, NOTHING, ((0, 2),), 4),
                (TWO, HALF, ((0, 1), (0, 1), (0, 1)), 4), (FOUR, (1, 7, 0, 1), ((0, 4),), 5)]:
            self.assert_looked(due, ("in", fan, one, glues))

    def test_each_asking_by_itself_and_two_at_once(self):
        one = (1, 8, 0, 1)
        wrong_rows = [((0, 5),), ((1, 1),), ()]
        bad_rows = [None, [], [(0, 4)], ((0, 4, 1),), ((0,),), ([0, 4],), "0^4", (0, 4), ((0, 0),), ((4, 1),),
                    ((-1, 1),), ((True, 1),), ((0, True),), ((False, 4),), ((0, "4"),), ((0, None),), ((0, 101),),
                    ((0, -101),),
                    ((1, 2),), ((2, 3),), ((2, -1),), ((3, 4),), ((0, 2), (0, 2)), ((0, 4), None), 4, ((None, 4),),
                    ((0, 10 ** 299),), (((0,), 4),), ((0, (4,)),)]
        for fan in NOT_FANS:
            for turning, row in [(one, ((0, 4),)), (None, None), (one, None), (None, ((0, 4),))]:
                self.assert_fails(2, ("in", fan, turning, row))
        for turning in NOT_TURNINGS:
            for row in [((0, 4),)] + bad_rows:
                self.assert_fails(3, ("in", FOUR, turning, row))
        for row in bad_rows:
            for turning in [one, NOTHING, HALF]:
                self.assert_fails(4, ("in", FOUR, turning, row))
        for row in wrong_rows:
            self.assert_fails(5, ("in", FOUR, one, row))

    def test_what_is_read(self):
        held = 0
        for seed, fan in enumerate(list(small_fans(3)) + FANS * 3 + big_fans(3)):
            one = row_product(fan, some_short_row(fan, 1 + seed % 12, 4, seed))
            kind, glues = read(fan, one)
            if len(glues) <= 100 and all(abs(power) <= 100 for gap, power in glues):
                self.assert_holds(("in", fan, one, glues))
                held += 1
                self.assert_fails(5, ("in", fan, product(one, (1, 1, 0, 1)), glues))
                self.assert_fails(5, ("in", fan, product(HALF, one), glues))
                if glues:
                    self.assert_fails(5, ("in", fan, one, glues[1:]))
                    self.assert_fails(5, ("in", fan, one, glues[:-1]))
        self.assertGreater(held, 80)

    def test_all_rows_of_two(self):
        things = [(gap, power) for gap in range(-1, 5) for power in range(-2, 4)]
        for fan in [FOUR, THREE]:
            for glues in [()] + [(one,) for one in things] + list(itertools.product(things, repeat=2)):
                gaps = all(0 <= gap < len(fan[0]) and power != 0 for gap, power in glues)
                short = gaps and all(is_short_tuple(fan, each) for each in glues)
                short = short and (len(glues) < 2 or glues[0][0] != glues[1][0])
                if short:
                    self.assert_holds(("in", fan, row_product(fan, glues), glues))
                    self.assert_fails(5, ("in", fan, product(row_product(fan, glues), (1, 1, 0, 1)), glues))
                else:
                    self.assert_fails(4, ("in", fan, NOTHING, glues))

    def test_a_hundred_tuples_and_one_more(self):
        for row in [((0, 1), (1, 1)) * 50, ((1, 1), (0, -2)) * 50, ((2, 2), (1, 1)) * 50]:
            self.assertEqual(len(row), 100)
            self.assert_holds(("in", FOUR, row_product(FOUR, row), row))
            self.assert_fails(4, ("in", FOUR, row_product(FOUR, row + row[:1]), row + row[:1]))
            self.assert_holds(("in", FOUR, row_product(FOUR, row[:99]), row[:99]))

    def test_powers_to_a_hundred_and_beyond(self):
        for power in [1, 99, 100, -1, -99, -100]:
            self.assert_holds(("in", FOUR, (1, 2 * power, 0, 1), ((0, power),)))
        for power in [101, -101, 10 ** 12, -(10 ** 299), 1000]:
            self.assert_fails(4, ("in", FOUR, (1, 2 * power, 0, 1), ((0, power),)))
        fan = (some_fan(22, 3)[0], tuple(range(21, -1, -1)))
        gaps = [3, 7]
        begun = time.monotonic()
        row = tuple((gaps[at % 2], 100 - 200 * (at // 2 % 2)) for at in range(100))
        self.assert_fails(5, ("in", fan, NOTHING, row))
        self.assert_fails(5, ("in", fan, (1, whole_of(300, 1), 0, 1), row))
        self.assertLess(time.monotonic() - begun, 10)

    def test_nothing_is_changed(self):
        self.assert_unchanged(looked, ("in", FOUR, (1, 8, 0, 1), ((0, 4),)))


def is_short_tuple(fan, each):
    gap, power = each
    mark = fan[1][gap]
    return power in {"half": (1,), "third": (1, 2)}.get(mark, [power] if type(mark) is int and mark > gap else [])


class Outside(Papers, unittest.TestCase):
    def test_by_hand(self):
        for table, word, place, due in [
                (SIX, "s", 1, None), (SIX, "r", 2, None), (SIX, "rsrssr", 4, 4), (SIX, "", 0, 4), (SIX, "", 1, 4),
                (SIX, "ss", 0, 4), (SIX, "s", 0, 4), (SIX, "s", 2, 4), (SIX, "rrrs", 1, None), (SIX, "sss", 1, None),
                (ALL, "s", 0, 4), (ALL, "s", 1, 4), (FROM_NOUGHT, "r", 1, None), (FROM_NOUGHT, "r", True, 4),
                (FROM_NOUGHT, "s", False, 4)]:
            self.assert_looked(due, ("out", table, word, place))

    def test_each_asking_by_itself_and_two_at_once(self):
        bad_words = [None, 0, (), [], "S", "srx", "s r", "s\n", " ", "a", ("s",), ["s", "r"], "sr" * 1000 + "s", True,
                     "R", "s" * 2001]
        bad_places = [True, False, None, "1", (1,), [1], 0, -5, 2, 6, 7, 10 ** 299, -1, "", ()]
        for table in NOT_TABLES:
            for word, place in [("s", 1), (None, None), ("s", None), (None, 1)]:
                self.assert_fails(2, ("out", table, word, place))
        for word in bad_words:
            for place in [1] + bad_places:
                self.assert_fails(3, ("out", SIX, word, place))
        for place in bad_places:
            self.assert_fails(4, ("out", SIX, "s", place))

    def test_words_of_tables(self):
        for table in list(some_tables(1)) + [table_of(fan) for fan in FANS]:
            for place in range(len(table[0])):
                word = word_to(table, place)
                if place == 0:
                    self.assert_fails(4, ("out", table, word, place))
                else:
                    self.assert_holds(("out", table, word, place))
                    self.assert_fails(4, ("out", table, word, place - 1))
                    self.assert_fails(4, ("out", table, word, place + 1))

    def test_words_short_or_not(self):
        for seed in range(200):
            chance = random.Random(seed)
            table = some_table(chance.randint(1, 60), seed)
            word = "".join(chance.choices("srq", k=chance.choice([1, 2, 3, 10, 100, 1999, 2000])))
            place = walked(table, word)
            for told in {place, 0, 1, chance.randrange(60)}:
                self.assert_looked(None if told == place != 0 else 4, ("out", table, word, told))

    def test_what_is_read(self):
        for seed, fan in enumerate(FANS[1:] + big_fans(2)):
            word = long_word(seed + 3, seed)
            kind, place = read(fan, spelled(word))
            if kind == "out":
                self.assert_holds(("out", table_of(fan), word, place))

    def test_nothing_is_changed(self):
        self.assert_unchanged(looked, ("out", SIX, "rs", 3))


class Same(Papers, unittest.TestCase):
    def test_fans_and_tables(self):
        for fan in list(small_fans(4)) + FANS + big_fans(3):
            table = table_of(fan)
            self.assert_holds(("same", fan, table))
            for place in range(1, len(table[0]), 3):
                other = told_anew(*table, place)
                self.assert_looked(None if other == table else 4, ("same", fan, other))

    def test_all_small_ones(self):
        tables = list(small_tables(6))
        for fan in small_fans(3):
            due = table_of(fan)
            for table in tables:
                self.assert_looked(None if table == due else 4, ("same", fan, table))

    def test_larger_groups_lead_back_but_have_fewer_places(self):
        self.assert_fails(4, ("same", PAIRS, ALL))
        for fan in FANS[1:]:
            self.assert_fails(4, ("same", fan, ALL))

    def test_as_many_places_but_another_group(self):
        self.assert_fails(4, ("same", THREE, ((0, 1, 2), (1, 2, 0))))
        self.assert_fails(4, ("same", THREE, FROM_ONE))
        self.assert_holds(("same", THREE, FROM_NOUGHT))

    def test_each_asking_by_itself_and_two_at_once(self):
        for fan in NOT_FANS:
            for table in [table_of(FOUR), None, SIX] + NOT_TABLES:
                self.assert_fails(2, ("same", fan, table))
        for table in NOT_TABLES:
            self.assert_fails(3, ("same", FOUR, table))

    def test_nothing_is_changed(self):
        self.assert_unchanged(looked, ("same", FOUR, table_of(FOUR)))


class Leaver(Papers, unittest.TestCase):
    def test_by_hand(self):
        for table, number, one, due in [
                (SIX, 2, (1, 2, 0, 1), None), (SIX, 2, (1, 6, 0, 1), 5), (SIX, 3, (1, 2, 0, 1), 4),
                (SIX, 1, HALF, None), (SIX, 1, NOTHING, 5), (SIX, 24, NOTHING, 5), (ALL, 1, HALF, 5),
                (EVEN_HALVES, 1, HALF, None),
                (PLAIN_TWO, 2, (1, 2, 0, 1), 5), (PLAIN_TWO, 1, (1, 1, 0, 1), None), (SIX, 2, (1, 2, 2, 5), 5),
                (PLAIN_TWO, 3, (1, 3, 0, 1), None), (PLAIN_TWO, 2, (1, 1, 0, 1), 4), (SIX, 4, (3, -4, 4, -5), None)]:
            with self.subTest(table=table, number=number, one=one):
                self.assert_looked(due, ("leaver", table, number, one))

    def test_with_all_signs_turned(self):
        # By 4 these leave 3, 0, 0, 3: nothing with all signs turned.
        for one in [(3, 4, 8, 11), (-1, 4, 4, -17), (-1, 0, 4, -1)]:
            self.assertEqual(one[0] * one[3] - one[1] * one[2], 1)
            for table in [SIX, PLAIN_TWO, FROM_NOUGHT, some_table(20, 3)]:
                due = 5 if walked(table, letters_of(one)) == 0 else None
                self.assert_looked(due, ("leaver", table, 4, one))
                self.assert_fails(4, ("leaver", table, 5, one))

    def test_small_turnings(self):
        tables = [SIX, PLAIN_TWO, SEVEN, some_table(13, 2)]
        for word in short_words(8):
            one = spelled(word)
            for number in [1, 2, 3, 4, 5, 6]:
                rests = [tuple(sign * part % number for part in one) for sign in (1, -1)]
                nothing = tuple(part % number for part in NOTHING) in rests
                for table in tables:
                    due = None if walked(table, word) != 0 else 5
                    self.assert_looked(due if nothing else 4, ("leaver", table, number, one))

    def test_each_asking_by_itself_and_two_at_once(self):
        bad_numbers = NO_NUMBERS + [0, -1, 25, 26, 10 ** 299, -6, (6,), "6", 6 * 5]
        self.assert_holds(("leaver", SEVEN, 6, LEAVER))
        for table in NOT_TABLES:
            for number, one in [(6, LEAVER), (None, None), (6, None), (None, LEAVER)]:
                self.assert_fails(2, ("leaver", table, number, one))
        for number in bad_numbers:
            for one in [LEAVER, None, NOTHING] + NOT_TURNINGS:
                self.assert_fails(3, ("leaver", SEVEN, number, one))
        for one in NOT_TURNINGS + [THIRD, HALF, (1, 1, 0, 1), (1, 5, 0, 1), product(LEAVER, HALF)]:
            self.assert_fails(4, ("leaver", SEVEN, 6, one))
        for one in [NOTHING, (1, 600, 0, 1), product(LEAVER, undone(LEAVER))]:
            self.assert_fails(5, ("leaver", SEVEN, 6, one))

    def test_numbers_from_one_to_twenty_four(self):
        for number in range(1, 25):
            self.assert_holds(("leaver", some_table(59, 1), number, self.leaving(some_table(59, 1), number)))
            self.assert_fails(4, ("leaver", some_table(59, 1), number, product((1, number, 0, 1), HALF)) if number > 1
                              else ("leaver", SIX, number, (1, 0, 0, 2)))
        self.assert_fails(3, ("leaver", SIX, 25, (1, 25, 0, 1)))
        self.assert_fails(3, ("leaver", SIX, 0, (1, 25, 0, 1)))

    def leaving(self, table, number):
        return next(one for one in [(1, number, 0, 1), (1, 0, number, 1), (1, 2 * number, 0, 1)]
                    if walked(table, letters_of(one)) != 0)

    def test_two_thousand_letters_and_more(self):
        for step, due in [(998, None), (1000, None), (1002, 4), (1004, 4), (10 ** 12, 4), (2 * whole_of(299, 2), 4)]:
            for one in [(1, step, 0, 1), (1, -step, 0, 1)]:
                self.assert_looked(due, ("leaver", SIX, 2, one))
        for step in [1000, 1001, 1002]:
            # By the rests of 1 all are nothing.
            one = (1, step, 0, 1)
            many = len(short_form(letters_of(one)))
            self.assertEqual(many, 2 * step)
            self.assert_looked(None if many <= 2000 else 4, ("leaver", SIX, 1, one))

    def test_what_is_judged(self):
        held = 0
        for many in range(7, 40):
            for seed in range(6):
                table = some_table(many, seed)
                try:
                    kind, one = judged(table)
                except ValueError:
                    continue
                if kind == "leaver":
                    from_number = [number for number in range(1, 25) if self.is_by(table, number)]
                    self.assert_holds(("leaver", table, from_number[0], one))
                    held += 1
        self.assertGreater(held, 20)

    def is_by(self, table, number):
        """Whether the number is the table's, told by the widths of its ends."""
        for first in range(len(table[0])):
            place, steps = first, 0
            while steps == 0 or place != first:
                place, steps = table[1][table[0][place]], steps + 1
            if number % steps:
                return False
        return True

    def test_nothing_is_changed(self):
        self.assert_unchanged(looked, ("leaver", SEVEN, 6, LEAVER))


class Refusals(Papers, unittest.TestCase):
    def test_what_is_refused_is_not_changed(self):
        for paper in [["in", FOUR], ("in", [FOUR], NOTHING, ()), ("out", SIX, ["s"], 1), ("same", FIVE, [SIX])]:
            before = repr(paper)
            self.assertRaises(NoPaper, looked, paper)
            self.assertEqual(repr(paper), before)


if __name__ == "__main__":
    unittest.main()
