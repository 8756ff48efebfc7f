"""Groups by rests: promises [25] and [26], what [3] says of them, and [2] as it holds for them."""

import itertools
import math
import time
import unittest

from fanglue.errors import TooMany
from fanglue.places import table_of
from fanglue.rests import by_rests, judged, number_of
from reckoned import (
    ALL, EVEN_HALVES, FANS, FROM_NOUGHT, FROM_ONE, FROM_TWO, NOTHING, PLAIN_TWO, ROUND_THIRDS, SIX, big_fans, both,
    is_own_table, letters_of, short_words, small_tables, some_table, some_tables, spelled, telling_words,
    told_anew, walked)
from things import Exact

KINDS = ["plain", "upper", "first"]


def is_nothing_by(one, number):
    """Whether the four numbers, or these with all signs turned, leave the rests of nothing."""
    return any(all((sign * part - due) % number == 0 for part, due in zip(one, NOTHING)) for sign in (1, -1))


def is_of(kind, number, one):
    """Whether a turning is of the group, told over again from the document."""
    a, b, c, d = one
    if kind == "plain":
        return is_nothing_by(one, number)
    return c % number == 0 and (kind == "upper" or (a - 1) % number == 0 or (a + 1) % number == 0)


def four_rests(number):
    """All fours of rests of determinant 1, each with its contrary."""
    rests = range(number)
    for a, b, c, d in itertools.product(rests, repeat=4):
        if (a * d - b * c - 1) % number == 0:
            yield (a, b, c, d)


def many_places(kind, number):
    """How many places the group has, reckoned by the parts of the number."""
    parts = [part for part in range(2, number + 1) if number % part == 0 and all(part % k for k in range(2, part))]
    many = number
    for part in parts:
        many = many * (part + 1) // part
    if kind == "upper":
        return many
    # As many as the rests without a common part with the number, two and two of one turning but for 1 and 2.
    many *= len([k for k in range(number) if math.gcd(k, number) == 1]) // (1 if number < 3 else 2) or 1
    return many if kind == "first" else many * number


class ByRests(Exact, unittest.TestCase):
    def test_by_hand(self):
        for kind, number, due in [
                ("plain", 1, ALL), ("upper", 1, ALL), ("first", 1, ALL), ("plain", 2, PLAIN_TWO),
                ("upper", 2, FROM_TWO), ("first", 2, FROM_TWO)]:
            self.assert_told(by_rests(kind, number), due)

    def test_how_many_places(self):
        for number in range(1, 7):
            fours = list(four_rests(number))
            for kind in KINDS:
                inside = len([four for four in fours if is_of(kind, number, four)])
                self.assertEqual(many_places(kind, number), len(fours) // inside)

    def test_each_kind_and_number(self):
        refused = 0
        for kind in KINDS:
            for number in range(1, 25):
                if many_places(kind, number) > 60:
                    self.assert_refused(TooMany, by_rests, kind, number)
                    refused += 1
                    continue
                told = by_rests(kind, number)
                self.assertTrue(is_own_table(told))
                self.assertEqual(len(told[0]), many_places(kind, number))
                for word in telling_words(told):
                    self.assertTrue(is_of(kind, number, spelled(word)), (kind, number, word))
        self.assertEqual(refused, 19 + 12)

    def test_small_turnings(self):
        ones = [(word, spelled(word)) for word in short_words(10)]
        for kind in KINDS:
            for number in range(1, 25):
                if many_places(kind, number) <= 60:
                    told = by_rests(kind, number)
                    for word, one in ones:
                        self.assertIs(walked(told, word) == 0, is_of(kind, number, one))

    def test_sixty_places(self):
        self.assertEqual(len(by_rests("plain", 5)[0]), 60)
        self.assertEqual(len(by_rests("first", 11)[0]), 60)
        self.assert_refused(TooMany, by_rests, "plain", 6)
        self.assert_refused(TooMany, by_rests, "first", 14)

    def test_at_once(self):
        begun = time.monotonic()
        for kind in KINDS:
            for number in range(1, 25):
                if many_places(kind, number) > 60:
                    self.assert_refused(TooMany, by_rests, kind, number)
                else:
                    self.assert_unchanged(by_rests, kind, number)
        self.assertLess(time.monotonic() - begun, 10)

    def test_within_one_another(self):
        for number in range(1, 13):
            upper, first = by_rests("upper", number), by_rests("first", number)
            self.assertEqual(both(first, upper), first)
            if number <= 5:
                self.assertEqual(both(by_rests("plain", number), first), by_rests("plain", number))


class NumberOf(Exact, unittest.TestCase):
    def test_by_hand(self):
        for table, due in [(ALL, 1), (EVEN_HALVES, 2), (ROUND_THIRDS, 3), (SIX, 6), (FROM_NOUGHT, 2), (PLAIN_TWO, 2)]:
            self.assert_told(number_of(table), due)

    def test_of_rests(self):
        for kind in KINDS:
            for number in range(1, 25):
                if many_places(kind, number) <= 60:
                    self.assert_told(number_of(by_rests(kind, number)), number)

    def test_the_least_that_all_widths_divide(self):
        tables = list(small_tables(6)) + list(some_tables(3)) + [table_of(fan) for fan in FANS + big_fans(2)]
        for table in tables:
            self.assert_told(number_of(table), math.lcm(*own_widths(table)))

    def test_nothing_is_changed(self):
        self.assert_unchanged(number_of, PLAIN_TWO)


def own_widths(table):
    """The width of the end of each place."""
    widths = []
    for first in range(len(table[0])):
        place, width = table[1][table[0][first]], 1
        while place != first:
            place, width = table[1][table[0][place]], width + 1
        widths.append(width)
    return widths


def one_of_both_signs(four, number):
    return max(tuple(part % number for part in four), tuple(-part % number for part in four))


def is_own_by_rests(table, number):
    """Whether all that is nothing by the rests is of the group: to no four rests words of two places lead."""
    first = one_of_both_signs(NOTHING, number)
    met, places = [first], {first: 0}
    for a, b, c, d in met:
        place = places[a, b, c, d]
        for four, leads in [((b, -a, d, -c), table[0]), ((b, -a - b, d, -c - d), table[1])]:
            four = one_of_both_signs(four, number)
            if four not in places:
                places[four] = leads[place]
                met.append(four)
            elif places[four] != leads[place]:
                return False
    return True


class Judged(Exact, unittest.TestCase):
    def assert_judged(self, table):
        number = math.lcm(*own_widths(table))
        if number > 24:
            self.assert_refused(TooMany, judged, table)
            return "many"
        told = judged(table)
        self.assertEqual((type(told), len(told)), (tuple, 2))
        if is_own_by_rests(table, number):
            self.assert_told(told, ("rests", number))
        else:
            self.assertEqual(told[0], "leaver")
            self.assert_leaves(table, number, told[1])
        return told[0]

    def assert_leaves(self, table, number, one):
        a, b, c, d = one
        self.assertEqual([type(part) for part in one], [int] * 4)
        self.assertEqual(a * d - b * c, 1)
        self.assertGreater((c, d), (0, 0))
        self.assertTrue(is_nothing_by(one, number))
        word = letters_of(one)
        self.assertLessEqual(len(word), 1000)
        self.assertNotEqual(walked(table, word), 0)

    def test_by_hand(self):
        for table, due in [
                (ALL, ("rests", 1)), (EVEN_HALVES, ("rests", 2)), (ROUND_THIRDS, ("rests", 3)), (SIX, ("rests", 6)),
                (FROM_NOUGHT, ("rests", 2)), (FROM_ONE, ("rests", 2)), (PLAIN_TWO, ("rests", 2))]:
            self.assert_told(judged(table), due)

    def test_seven_places_are_the_least_that_are_not_by_rests(self):
        found = {many: set() for many in range(1, 8)}
        for table in small_tables(7):
            found[len(table[0])].add(self.assert_judged(table))
        self.assertEqual([found[many] for many in range(1, 7)], [{"rests"}] * 6)
        self.assertLessEqual({"rests", "leaver"}, found[7])

    def test_of_rests(self):
        for kind in KINDS:
            for number in range(1, 25):
                if many_places(kind, number) <= 60:
                    table = by_rests(kind, number)
                    for place in range(0, len(table[0]), 11):
                        self.assert_told(judged(told_anew(*table, place)), ("rests", number))

    def test_meets_of_rests(self):
        for one, other in itertools.combinations(range(1, 9), 2):
            table = both(by_rests("upper", one), by_rests("upper", other))
            if table is not None:
                self.assertEqual(self.assert_judged(table), "rests" if math.lcm(one, other) <= 24 else "many")

    def test_larger_tables(self):
        found = [self.assert_judged(table) for table in list(some_tables(4))
                 + [table_of(fan) for fan in FANS + big_fans(1)]]
        for kind in ["rests", "leaver", "many"]:
            self.assertGreater(found.count(kind), 20)

    def test_a_number_of_twenty_four_and_above(self):
        found = {}
        for many in range(7, 30):
            for seed in range(30):
                table = some_table(many, seed)
                found.setdefault(math.lcm(*own_widths(table)), table)
        self.assertLessEqual({20, 21, 22, 24, 26, 28, 30}, set(found))
        for number in range(17, 40):
            if number in found:
                self.assertEqual(self.assert_judged(found[number]) == "many", number > 24)

    def test_at_once(self):
        begun = time.monotonic()
        for number in (19, 20, 21, 22, 23, 24):
            judged(by_rests("upper", number))
        self.assertLess(time.monotonic() - begun, 10)

    def test_nothing_is_changed(self):
        for seed in range(6):
            self.assert_unchanged(judged, some_table(7, seed))
        self.assert_unchanged(judged, PLAIN_TWO)


if __name__ == "__main__":
    unittest.main()
