"""Words: promise [7], what [3] says of them, and [2] as it holds for them."""

import itertools
import random
import re
import unittest

from fanglue.errors import TooLong
from fanglue.words import is_short, is_word, shortened, turning_of, word_contrary, word_of
from reckoned import (
    HALF, LETTERS, NOT_SHORT, NOTHING, THIRD, from_behind, long_word, product, short_words, spelled, undone, upright)
from things import OTHER_THINGS, Exact, nested, whole_of

FEW = 6


def words(most):
    """All words of at most so many letters."""
    for many in range(most + 1):
        for letters in itertools.product("srq", repeat=many):
            yield "".join(letters)


def some_word(many, seed):
    """A word, short or not, of so many letters, the same in every run."""
    return "".join(random.Random(seed).choices("srq", k=many))


def due_short(word):
    """Shortened pair by pair, until none is left that a short word does not have."""
    while NOT_SHORT.search(word):
        word = re.sub("ss|rq|qr|rrr|qqq", "", word, count=1)
        word = re.sub("rr(?![rq])", "q", word, count=1)
        word = re.sub("qq(?![rq])", "r", word, count=1)
    return word


LONG = [some_word(many, seed) for seed, many in enumerate([50, 333, 1000, 1999, 2000, 2000, 2000])]
LONG_SHORT = ["qs" * 1000, "sr" * 1000, "rs" * 1000, "sq" * 1000, "s" + "rs" * 999 + "r", "rs" * 999 + "r",
              "rsqs" * 500, "sqsr" * 500, "rs" * 500 + "qs" * 500, "sq" * 700 + "sr" * 300, "qs" * 999 + "rs",
              "rs" + "qs" * 999] \
    + [long_word(many, seed) for seed, many in enumerate([1, 2, 99, 500, 1998, 1999, 2000, 2000, 2000])] \
    + [long_word(2000, seed, letters) for seed, letters in enumerate(["rrrrrrrq", "qqqqqqqqqqqr", "q" * 99 + "r"])]


class IsWord(Exact, unittest.TestCase):
    def test_all_words_of_few_letters(self):
        for word in words(FEW):
            self.assert_told(is_word(word), True)

    def test_two_thousand_letters_and_one_more(self):
        for letter in "srq":
            for many, due in [(1999, True), (2000, True), (2001, False), (2002, False), (10000, False)]:
                self.assert_told(is_word(letter * many), due)
        for word in LONG + LONG_SHORT:
            self.assert_told(is_word(word), True)
        self.assert_told(is_word("qs" * 1000 + "q"), False)

    def test_other_signs(self):
        for sign in ["S", "R", "Q", " ", "\n", "\t", "-", ".", "0", "1", "p", "t", "a", "\u017f", "\u0455", "\0", "'"]:
            for text in [sign, sign + "s", "s" + sign, "sr" + sign + "sq", "s" + sign * 2, "sq" * 999 + sign]:
                with self.subTest(text=text[:9]):
                    self.assert_told(is_word(text), False)
        for text in ["sr sq", "srs\n", "\nsrs", "half", "none", "None", "s,r", "SRQ", "sRs"]:
            self.assert_told(is_word(text), False)

    def test_all_single_signs(self):
        for code in range(0, 300):
            self.assert_told(is_word(chr(code)), chr(code) in "srq")

    def test_things_that_are_no_text(self):
        for thing in OTHER_THINGS + [["s"], ("s",), ["s", "r"], ("s", "r", "q"), list("srs"), tuple("srs"),
                                     nested("sr", 2), [["s"]], ("",), [""], ["s"] * 300, b"srs"]:
            if thing != "":
                with self.subTest(thing=thing):
                    self.assert_told(is_word(thing), False)

    def test_nothing_is_changed(self):
        for thing in ["srs", ["s", "r"], [["s"], []], ("s", ["r"])]:
            self.assert_unchanged(is_word, thing)


class IsShort(Exact, unittest.TestCase):
    def test_all_words_of_few_letters(self):
        for word in words(8):
            self.assert_told(is_short(word), NOT_SHORT.search(word) is None)

    def test_by_hand(self):
        for word, due in [("", True), ("s", True), ("r", True), ("q", True), ("ss", False), ("rr", False),
                          ("qq", False), ("rq", False), ("qr", False), ("sr", True), ("qs", True), ("srsqs", True),
                          ("srsqqs", False), ("srsqss", False), ("rrs", False), ("srsr", True)]:
            self.assert_told(is_short(word), due)

    def test_long_words(self):
        for word in LONG_SHORT:
            self.assert_told(is_short(word), True)
            for at in range(0, len(word) - 1, 111):
                twice = word[:at + 1] + word[at] + word[at + 2:]
                self.assert_told(is_short(twice), False)


class TurningOf(Exact, unittest.TestCase):
    def test_all_words_of_few_letters(self):
        for word in words(FEW):
            self.assert_told(turning_of(word), spelled(word))

    def test_by_hand(self):
        for word, due in [("", NOTHING), ("s", HALF), ("r", THIRD), ("q", (1, -1, 1, 0)), ("ss", NOTHING),
                          ("rr", (1, -1, 1, 0)), ("rrr", NOTHING), ("rq", NOTHING), ("qq", THIRD),
                          ("sr", (1, -1, 0, 1)), ("qs", (1, 1, 0, 1)), ("rs", (1, 0, 1, 1)), ("sq", (-1, 0, 1, -1)),
                          ("qsqs", (1, 2, 0, 1)), ("srs", (-1, -1, 1, 0)), ("qsrs", (2, 1, 1, 1)),
                          ("rsqs", (1, 1, 1, 2))]:
            self.assert_told(turning_of(word), due)

    def test_long_words(self):
        for word in LONG + LONG_SHORT:
            self.assert_told(turning_of(word), spelled(word))

    def test_two_words_in_a_row(self):
        for one in words(3):
            for other in words(3):
                self.assertEqual(turning_of(one + other), product(turning_of(one), turning_of(other)))


class WordOf(Exact, unittest.TestCase):
    def assert_both_ways(self, word):
        self.assert_told(word_of(spelled(word)), word)

    def test_all_short_words_of_few_letters(self):
        for word in short_words(14):
            self.assert_both_ways(word)

    def test_each_turning_has_just_one_short_word(self):
        told = [spelled(word) for word in short_words(14)]
        self.assertEqual(len(set(told)), len(told))

    def test_all_small_turnings(self):
        for a, b, c, d in itertools.product(range(-6, 7), repeat=4):
            if a * d - b * c == 1:
                one = upright(a, b, c, d)
                word = word_of(one)
                self.assertIsNone(NOT_SHORT.search(word))
                self.assert_told(spelled(word), one)

    def test_by_hand(self):
        for one, due in [(NOTHING, ""), (HALF, "s"), (THIRD, "r"), ((1, -1, 1, 0), "q"), ((1, 1, 0, 1), "qs"),
                         ((1, -1, 0, 1), "sr"), ((1, 0, 1, 1), "rs"), ((-1, 0, 1, -1), "sq"), ((1, 3, 0, 1), "qsqsqs"),
                         ((2, 1, 1, 1), "qsrs"), ((1, -3, 0, 1), "srsrsr"), ((0, -1, 1, 5), "sqsqsqsqsqs"),
                         ((5, -1, 1, 0), "qsqsqsqsq")]:
            self.assert_told(word_of(one), due)

    def test_two_thousand_letters(self):
        for word in LONG_SHORT:
            self.assert_both_ways(word)

    def test_more_than_two_thousand_letters(self):
        for word in LONG_SHORT:
            if len(word) == 2000:
                for longer in ["s" + word, "q" + word, "r" + word, word + "s", word + "q", word + "r", word * 2]:
                    if not NOT_SHORT.search(longer):
                        self.assert_refused(TooLong, word_of, spelled(longer))

    def test_steps_along_an_end(self):
        for many in [1, 2, 999, 1000, 1001, 1002, 10 ** 6, 10 ** 12, 10 ** 12 - 1, 10 ** 299, whole_of(300, 5)]:
            for one, letters in [((1, many, 0, 1), "qs"), ((1, -many, 0, 1), "sr"),
                                 ((1, 0, many, 1), "rs"), ((-1, 0, many, -1), "sq")]:
                self.assert_along(one, letters * many if many < 10000 else None)
                turned = due_short("s" + letters * many) if many < 2000 else None
                self.assert_along(product(HALF, one), turned)
                turned = due_short(letters * many + "s") if many < 2000 else None
                self.assert_along(product(one, HALF), turned)

    def assert_along(self, one, word):
        if word is None or len(word) > 2000:
            self.assert_refused(TooLong, word_of, one)
        else:
            self.assert_told(word_of(one), word)

    def test_long_stretches_in_the_midst(self):
        for many in [300, 10 ** 3, 10 ** 12, 10 ** 100]:
            for ahead, behind in [("rs", "rs"), ("srsqs", "rsrsq"), ("sr" * 30, "sqsqr")]:
                one = product(spelled(ahead), (1, many, 0, 1), spelled(behind))
                if many > 1000:
                    self.assert_refused(TooLong, word_of, one)
                elif many == 300:
                    self.assert_told(word_of(one), due_short(ahead + "qs" * many + behind))

    def test_many_figures(self):
        big = [(1, whole_of(300, 1), 0, 1), (whole_of(300, 2), -1, 1, 0)]
        big.append(product(big[0], HALF, big[1], HALF, big[0]))
        big.append(product(*[(3, 2, 1, 1)] * 20000))
        for one in big:
            self.assert_refused(TooLong, word_of, one)


class Shortened(Exact, unittest.TestCase):
    def test_all_words_of_few_letters(self):
        for word in words(8):
            self.assert_told(shortened(word), due_short(word))

    def test_short_with_the_same_turning_and_the_same_again(self):
        for word in list(words(5)) + LONG:
            short = shortened(word)
            self.assertIsNone(NOT_SHORT.search(short))
            self.assert_told(spelled(short), spelled(word))
            self.assert_told(shortened(short), short)

    def test_short_words_stay(self):
        for word in list(short_words(10)) + LONG_SHORT:
            self.assert_told(shortened(word), word)

    def test_all_alike(self):
        for many in range(1980, 2001):
            self.assert_told(shortened("s" * many), "s" * (many % 2))
            self.assert_told(shortened("r" * many), ["", "r", "q"][many % 3])
            self.assert_told(shortened("q" * many), ["", "q", "r"][many % 3])

    def test_with_its_contrary_behind(self):
        for word in list(words(5)) + [word[:1000] for word in LONG + LONG_SHORT]:
            self.assert_told(shortened(word + word_contrary(word)), "")
            self.assert_told(shortened(word_contrary(word) + word), "")

    def test_it_is_the_word_of_the_turning(self):
        for word in list(words(5)) + LONG:
            self.assert_told(word_of(turning_of(word)), shortened(word))


class Contraries(Exact, unittest.TestCase):
    def test_all_words_of_few_letters(self):
        for word in words(FEW):
            self.assert_told(word_contrary(word), from_behind(word))

    def test_by_hand(self):
        for word, due in [("", ""), ("s", "s"), ("r", "q"), ("q", "r"), ("sr", "qs"), ("ssr", "qss"),
                          ("rrq", "rqq"), ("srsqq", "rrsqs")]:
            self.assert_told(word_contrary(word), due)

    def test_the_turning_is_the_contrary(self):
        for word in list(words(5)) + LONG:
            self.assert_told(turning_of(word_contrary(word)), undone(spelled(word)))
            self.assert_told(word_contrary(word_contrary(word)), word)


class Letters(unittest.TestCase):
    def test_the_letters_as_told(self):
        self.assertEqual({letter: turning_of(letter) for letter in "srq"}, LETTERS)
        self.assertEqual(product(THIRD, THIRD), LETTERS["q"])


if __name__ == "__main__":
    unittest.main()
