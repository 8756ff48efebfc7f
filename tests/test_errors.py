"""The refusals: FanError and the fourteen classes straight under it."""

import unittest

from fanglue import errors
from fanglue.errors import (
    FanError, Full, NoFan, NoFraction, NoName, NoPaper, NoRoot, NoRow, NoTable, NoText,
    NotIn, NoTurning, Open, TooLong, TooMany)

REFUSALS = [
    NoFraction, NoTurning, NoFan, NoTable, NoRoot, NotIn, NoPaper,
    NoText, NoRow, NoName, Full, Open, TooLong, TooMany]


class Classes(unittest.TestCase):
    def test_fan_error_stands_straight_under_value_error(self):
        self.assertEqual(FanError.__bases__, (ValueError,))

    def test_each_refusal_stands_straight_under_fan_error(self):
        self.assertEqual(len(set(REFUSALS)), 14)
        for refusal in REFUSALS:
            with self.subTest(refusal=refusal.__name__):
                self.assertEqual(refusal.__bases__, (FanError,))

    def test_none_stands_under_another_one(self):
        for refusal in REFUSALS:
            for other in REFUSALS:
                if refusal is not other:
                    self.assertFalse(issubclass(refusal, other))

    def test_each_is_called_by_its_own_name(self):
        for refusal in REFUSALS + [FanError]:
            self.assertIs(getattr(errors, refusal.__name__), refusal)


class Values(unittest.TestCase):
    def test_no_fan_has_where_and_at(self):
        for where, at in [("fan", 0), ("fraction", 3), ("mark", 21), ("places", 0)]:
            refusal = NoFan(where, at)
            self.assertEqual((refusal.where, refusal.at), (where, at))

    def test_no_fan_without_a_number_is_at_0(self):
        refusal = NoFan("nought")
        self.assertEqual((refusal.where, refusal.at), ("nought", 0))

    def test_no_paper_has_at(self):
        for at in range(1, 6):
            self.assertEqual(NoPaper(at).at, at)

    def test_values_are_each_object_s_own(self):
        first = NoFan("fraction", 2)
        later = NoFan("mark", 5)
        self.assertEqual((first.where, first.at, later.where, later.at), ("fraction", 2, "mark", 5))
        low, high = NoPaper(1), NoPaper(4)
        self.assertEqual((low.at, high.at), (1, 4))

    def test_values_come_through_a_raise(self):
        with self.assertRaises(FanError) as caught:
            raise NoFan("mark", 7)
        self.assertEqual((caught.exception.where, caught.exception.at), ("mark", 7))
        with self.assertRaises(ValueError) as caught:
            raise NoPaper(3)
        self.assertEqual(caught.exception.at, 3)


if __name__ == "__main__":
    unittest.main()
