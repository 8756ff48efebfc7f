"""Fans: promises [8] and [9], and [2] as it holds for them."""

import random
import unittest

from fanglue.errors import NoFan
from fanglue.fans import gap_turning, look
from reckoned import (
    FIVE, HALF, NOTHING, THREE, TWO, across, all_marks, big_fans, fraction_rows, reckoned_places, small_fans, some_fan)
from things import NO_NUMBERS, OTHER_THINGS, Exact, nested, whole_of

TOP = (1, 0)
# What stands where a fraction or a mark is due, and is none that a fan of few has there.
STRANGE = NO_NUMBERS + [[], (0, 2), (2, 2), (1, -1), (0, -1), (-1, 0), (0, 0), (1,), (1, 0, 0), [1, 0], [0, 1],
                        (True, False), (False, True), (0, True), (True, 0), ("0", "1"), ("half",), ["third"], "Half",
                        "halves", " half", "thirds", "THIRD", -1, 22, 23, 10 ** 12, whole_of(300, 8), (7, 12), (50, 1),
                        (-50, 1), ((0, 1),), ([0], [1]), "1/0", "0/1", (1, 0), (0, 1), (1, 1), (-1, 1), 0, 1, 2, 3,
                        True, False, "half", "third"]


def is_own_number(thing):
    return type(thing) is int


def divides_both(p, q):
    return any(p % part == 0 and q % part == 0 for part in range(2, abs(p) + abs(q) + 1))


def is_own_fraction(thing):
    """Told here by trying all parts; numbers of many figures are handed in only where they are coprime."""
    if type(thing) is not tuple or len(thing) != 2 or not all(is_own_number(part) for part in thing):
        return False
    p, q = thing
    if q <= 0:
        return thing == TOP
    return q == 1 or not divides_both(p, q)


def neighbours(one, other):
    return abs(one[0] * other[1] - one[1] * other[0]) == 1


def fraction_fault(row, at):
    one = row[at]
    if not is_own_fraction(one) or (one == TOP) != (at == 0):
        return True
    if at > 0 and not neighbours(one, row[at - 1]):
        return True
    if at > 1 and not one[0] * row[at - 1][1] > row[at - 1][0] * one[1]:
        return True
    return at == len(row) - 1 and one[1] != 1


def mark_fault(marks, gap):
    mark = marks[gap]
    if type(mark) is str:
        return mark not in ["half", "third"]
    if not is_own_number(mark) or mark == gap or mark not in range(len(marks)):
        return True
    return type(marks[mark]) is not int or marks[mark] != gap


def first_fault(thing):
    """("where", at) of the first fault, or None: the looking told over again, from the document's order."""
    if type(thing) is not tuple or [type(part) for part in thing] != [tuple, tuple]:
        return ("fan", 0)
    row, marks = thing
    if len(row) not in range(2, 23):
        return ("many", 0)
    for at in range(len(row)):
        if fraction_fault(row, at):
            return ("fraction", at)
    if (0, 1) not in row:
        return ("nought", 0)
    if len(marks) != len(row):
        return ("marks", 0)
    for gap in range(len(marks)):
        if mark_fault(marks, gap):
            return ("mark", gap)
    return None if 0 < reckoned_places(thing) < 61 else ("places", 0)


def put(row, at, thing):
    return row[:at] + (thing,) + row[at + 1:]


def changed_rows(row, chance):
    """The row with one thing in it changed, left out, put in twice, exchanged, made another kind."""
    for at in range(len(row)):
        yield put(row, at, chance.choice(STRANGE))
        yield row[:at] + row[at + 1:]
        yield row[:at] + row[at:at + 1] + row[at:]
        yield row[:at] + (chance.choice(STRANGE),) + row[at:]
        other = chance.randrange(len(row))
        yield put(put(row, at, row[other]), other, row[at])
        yield put(row, at, row[other])
        if type(row[at]) is tuple:
            p, q = row[at]
            for one in [list(row[at]), (p, True), (True, q), (False, q), (p, None), (p, str(q)), (p + 1, q), (p - 1, q),
                        (p, q + 1), (p, q - 1), (-p, -q), (-p, q), (2 * p, 2 * q), (p, q, 1), (p,), f"{p}/{q}"]:
                yield put(row, at, one)
        else:
            for mark in ["half", "third", at, at + 1, at - 1, other, -1, len(row), str(row[at]), [row[at]], (row[at],),
                         None, True, False]:
                yield put(row, at, mark)


def changed_fans(fan, seed):
    chance = random.Random(seed)
    row, marks = fan
    for other in changed_rows(row, chance):
        yield (other, marks)
    for other in changed_rows(marks, chance):
        yield (row, other)
    rows = list(changed_rows(row, chance))
    others = list(changed_rows(marks, chance))
    for count in range(len(row)):
        yield (chance.choice(rows), chance.choice(others))


class Looked(Exact, unittest.TestCase):
    def assert_fault(self, thing, due):
        with self.subTest(thing=thing):
            if due is None:
                self.assertIsNone(look(thing))
            else:
                with self.assertRaises(NoFan) as caught:
                    look(thing)
                self.assertIs(type(caught.exception), NoFan)
                self.assert_told((caught.exception.where, caught.exception.at), due)

    def test_all_small_fans(self):
        for fan in small_fans(5):
            self.assertIsNone(look(fan))

    def test_fans_of_two_to_twenty_two(self):
        for fan in big_fans(12):
            self.assertIsNone(look(fan))

    def test_no_tuple_of_two_tuples(self):
        row, marks = THREE
        for thing in [None, True, 0, 5, "", "fan", [], (), (row,), (marks,), [row, marks], (list(row), marks),
                      (row, list(marks)), (row, marks, ()), (row, marks, marks), (row, marks, None), row, marks,
                      (None, marks), (row, None), (row, "half"), ("ab", marks), (row, 3), (2, 2), ("", ""),
                      ([], []), [(), ()], nested(THREE, 1), nested(THREE, 2), row + marks]:
            self.assert_fault(thing, ("fan", 0))

    def test_other_things(self):
        for thing in OTHER_THINGS:
            self.assert_fault(thing, first_fault(thing))

    def test_too_few_and_too_many(self):
        row, marks = THREE
        for many in [0, 1, 23, 24, 60, 300]:
            up = (TOP,) + tuple((k, 1) for k in range(many - 1)) if many else ()
            for other in [(), marks, ("half",) * many, ("third",) * many, (None,)]:
                self.assert_fault((up, other), ("many", 0))
        self.assert_fault(((None,), marks), ("many", 0))
        self.assert_fault(((None,) * 23, marks), ("many", 0))
        self.assert_fault(((), ()), ("many", 0))

    def test_faults_of_fractions(self):
        for row, at in [
                (((0, 1), (1, 1)), 0), (((0, 1), TOP), 0), (((-1, 0), (0, 1)), 0), (((2, 0), (0, 1)), 0),
                ((None, (0, 1)), 0), (([1, 0], (0, 1)), 0), (((1, False), (0, 1)), 0), (((True, 0), (0, 1)), 0),
                ((TOP, TOP), 1), ((TOP, (1, 2)), 1), ((TOP, (-1, 2), (0, 1)), 1), ((TOP, (0, 1), TOP), 2),
                ((TOP, (0, 1), (0, 1)), 2), ((TOP, (1, 1), (0, 1)), 2), ((TOP, (0, 1), (2, 1)), 2),
                ((TOP, (0, 1), (1, 2)), 2), ((TOP, (0, 1), (1, 2), (2, 3)), 3), ((TOP, (0, 1), (2, 2)), 2),
                ((TOP, (0, 1), (1, 2), (1, 1), (3, 2)), 4), ((TOP, (0, 1), (1, 1), TOP, (2, 1)), 3),
                ((TOP, (0, 1), (1, 1), (1, 2)), 3), ((TOP, (0, -1)), 1), ((TOP, (0, 1, 1)), 1), ((TOP, [0, 1]), 1),
                ((TOP, (0, True)), 1), ((TOP, (False, 1)), 1), ((TOP, "0/1"), 1), ((TOP, None), 1),
                ((TOP, (0, 1), (1, 3), (1, 2), (2, 3), (1, 1), (4, 3)), 6), ((TOP, (-1, 1), (1, 1)), 2),
                ((TOP, (whole_of(300, 3), 2), (0, 1)), 1), ((TOP, (0, 1), (1, whole_of(300, 4))), 2)]:
            self.assert_fault((row, ()), ("fraction", at))
            self.assert_fault((row, ("half",) * len(row)), ("fraction", at))

    def test_the_last_one_must_be_a_neighbour_of_the_first(self):
        self.assert_fault(((TOP, (0, 1), (1, 2)), ("half",) * 3), ("fraction", 2))
        self.assert_fault(((TOP, (0, 1), (1, 2), (1, 1)), ("half",) * 4), None)

    def test_nought_is_not_there(self):
        for row in [(TOP, (1, 1)), (TOP, (-1, 1)), (TOP, (1, 1), (2, 1)), (TOP, (-2, 1), (-1, 1)),
                    (TOP, (1, 1), (3, 2), (2, 1)), (TOP, (whole_of(300, 2), 1))]:
            for marks in [(), ("half",) * len(row), ("third",) * len(row), (None,)]:
                self.assert_fault((row, marks), ("nought", 0))

    def test_not_as_many_marks(self):
        row, marks = THREE
        for other in [(), marks[:2], marks + ("half",), marks + (None,), (None,), ("half",) * 22, (None,) * 300]:
            self.assert_fault((row, other), ("marks", 0))

    def test_faults_of_marks(self):
        row = FIVE[0]
        for marks, gap in [
                ((0, "half", "half", "half", "half"), 0), ((1, "half", "half", "half", "half"), 0),
                (("half", 0, "half", "half", "half"), 1), ((1, 2, 0, "half", "half"), 0),
                ((1, 0, 0, "half", "half"), 2), (("half", "half", "half", "half", 5), 4),
                (("half", "half", "half", "half", -1), 4), ((-1, "half", "half", "half", 0), 0),
                ((5, "half", "half", "half", "half"), 0), (("half", "Half", "half", "half", "half"), 1),
                (("half", "third ", "half", "half", "half"), 1), (("half", None, "half", "half", "half"), 1),
                (("half", "half", "half", ["half"], "half"), 3), (("half", "half", "half", ("third",), "half"), 3),
                (("half", "half", "half", "", "half"), 3), (("half", "half", "0", "half", "half"), 2),
                ((True, False, "half", "half", "half"), 0), ((1, False, "half", "half", "half"), 0),
                ((True, 0, "half", "half", "half"), 0), (("half", 2, True, "half", "half"), 1),
                (("half", "half", "half", whole_of(300, 1), "half"), 3), (("half", "half", 3, 2, 4), 4),
                (("half", "half", 3, 2, 3), 4), (("third", "third", 3, 2, ()), 4)]:
            self.assert_fault((row, marks), ("mark", gap))

    def test_truths_after_the_numbers_that_equal_them(self):
        row = THREE[0]
        for marks, due in [((1, 0, "half"), None), ((1, False, "half"), ("mark", 0)), ((True, 0, "half"), ("mark", 0)),
                           (("half", 2, 1), None), (("half", 2, True), ("mark", 1)), ((1, 0, "half"), None)]:
            self.assert_fault((row, marks), due)
        for first, due in [((1, 0), None), ((True, 0), ("fraction", 0)), ((1, False), ("fraction", 0)), ((1, 0), None)]:
            self.assert_fault(((first,) + row[1:], THREE[1]), due)

    def test_no_places(self):
        for marks, due in [(("half", "half"), ("places", 0)), ((1, 0), ("places", 0)), (("half", "third"), None),
                           (("third", "half"), None), (("third", "third"), None)]:
            self.assert_fault((TWO[0], marks), due)

    def test_more_than_sixty_places(self):
        for many, most in [(22, 0), (21, 3), (20, 6), (19, 9), (18, 12), (17, 15), (16, 16)]:
            row = (TOP,) + tuple((k, 1) for k in range(many - 1))
            for thirds in range(many + 1):
                marks = ("third",) * thirds + ("half",) * (many - thirds)
                self.assert_fault((row, marks), None if thirds <= most else ("places", 0))

    def test_all_marks_of_few_gaps_in_all_rows(self):
        for many in [2, 3, 4]:
            for row in fraction_rows(many):
                for marks in all_marks(many):
                    self.assert_fault((row, marks), first_fault((row, marks)))

    def test_one_thing_changed(self):
        for seed, fan in enumerate([TWO, THREE, FIVE] + big_fans(3)):
            for other in changed_fans(fan, seed):
                self.assert_fault(other, first_fault(other))

    def test_strange_things_in_each_place(self):
        for fan in [TWO, THREE, FIVE]:
            row, marks = fan
            for at in range(len(row)):
                for thing in STRANGE + OTHER_THINGS:
                    for other in [(put(row, at, thing), marks), (row, put(marks, at, thing))]:
                        self.assert_fault(other, first_fault(other))

    def test_of_several_faults_the_first(self):
        up = (TOP, (0, 1), (1, 1))
        for thing, due in [
                ((up[:1], ["half"]), ("fan", 0)), ((up[:1], (None,)), ("many", 0)),
                (((TOP, (1, 1), (1, 2)), (None,)), ("fraction", 2)), (((TOP, (1, 1), (2, 1)), (None,)), ("nought", 0)),
                ((up, ("half", None)), ("marks", 0)), ((TWO[0], ("half", "halves")), ("mark", 1)),
                ((up, (None, None, None)), ("mark", 0)), (((TOP, None, None), (None,)), ("fraction", 1)),
                (((None, None), ()), ("fraction", 0)), (((TOP, (1, 1)), ("half", "half")), ("nought", 0))]:
            self.assert_fault(thing, due)

    def test_nothing_is_changed(self):
        for thing in [THREE, FIVE]:
            self.assert_unchanged(look, thing)
        for thing in [[list(THREE[0]), list(THREE[1])], ([[1, 0], [0, 1]], ["half", "third"])]:
            kept = repr(thing)
            self.assert_refused(NoFan, look, thing)
            self.assertEqual(repr(thing), kept)


class GapTurnings(Exact, unittest.TestCase):
    def assert_leads(self, one, first, second):
        a, b, c, d = one
        self.assertEqual(a * d - b * c, 1)
        self.assertIn(first, [(a, c), (-a, -c)])
        self.assertIn(second, [(b, d), (-b, -d)])

    def test_leads_to_the_two_fractions(self):
        for fan in list(small_fans(4)) + big_fans(5):
            row = fan[0]
            for gap in range(len(row)):
                behind = (row + row[:1])[gap + 1]
                told = gap_turning(fan, gap)
                self.assert_leads(told, row[gap], behind)
                self.assert_told(told, across(row[gap], behind))

    def test_by_hand(self):
        for gap, due in enumerate([(1, -1, 0, 1), (-1, 0, 1, -1), (0, -1, 1, -2), (1, -1, 2, -1), (1, -1, 1, 0)]):
            self.assert_told(gap_turning(FIVE, gap), due)
        self.assert_told(gap_turning(TWO, 0), NOTHING)
        self.assert_told(gap_turning(TWO, 1), HALF)

    def test_the_last_gap_leads_back_to_the_first_fraction(self):
        for many in range(2, 23):
            row, marks = some_fan(many, many)
            p = row[-1][0]
            self.assert_told(gap_turning((row, marks), many - 1), (p, -1, 1, 0))

    def test_nothing_is_changed(self):
        self.assert_unchanged(gap_turning, FIVE, 3)


if __name__ == "__main__":
    unittest.main()
