"""Texts: promise [29], and [2] as it holds for them."""

import random
import sys
import unittest

from fanglue.errors import NoText
from fanglue.places import fan_of, table_of
from fanglue.texts import read_fan, read_table, read_turning, show_fan, show_glues, show_table, show_turning
from reckoned import (
    ALL, BOTH_THIRDS, FANS, FIVE, FOUR, HALF, NOTHING, PAIRS, SIX, THIRD, THREE, TWO, big_fans, long_word, product,
    row_product, short_words, small_fans, small_tables, some_fan, some_row, some_short_row, some_tables, spelled,
    told_anew, undone)
from things import OTHER_THINGS, Exact, whole_of

TURNINGS = [
    (NOTHING, "1 0 0 1"), (HALF, "0 -1 1 0"), (THIRD, "0 -1 1 -1"), ((1, 10, 0, 1), "1 10 0 1"),
    ((1, -999999999999, 0, 1), "1 -999999999999 0 1"), ((-5, -2, 8, 3), "-5 -2 8 3"), ((5, 2, 7, 3), "5 2 7 3"),
]
FAN_TEXTS = [
    (TWO, "fan 1/0 0/1\nmarks half third"), (BOTH_THIRDS, "fan 1/0 0/1\nmarks third third"),
    (THREE, "fan 1/0 0/1 1/1\nmarks half 2 1"), (FOUR, "fan 1/0 -1/1 0/1 1/1\nmarks 3 half third 0"),
    (FIVE, "fan 1/0 -1/1 0/1 1/2 1/1\nmarks 3 third half 0 half"),
    (PAIRS, "fan 1/0 -1/1 -1/2 0/1 1/2 1/1\nmarks 5 4 3 2 1 0"),
]
TABLE_TEXTS = [
    (ALL, "half 0\nthird 0"), (SIX, "half 1 0 3 2 5 4\nthird 2 3 4 5 0 1"),
    (((1, 0, 4, 5, 2, 3, 6), (2, 3, 5, 6, 4, 0, 1)), "half 1 0 4 5 2 3 6\nthird 2 3 5 6 4 0 1"),
    (((0, 2, 1), (1, 2, 0)), "half 0 2 1\nthird 1 2 0"),
]
SIGNS = [chr(code) for code in range(32, 127)] + ["\n"]


def changed_texts(text, chance):
    """The text with a sign more, less, another, exchanged, doubled; with words and rows more, less, exchanged."""
    for at in range(len(text) + 1):
        yield text[:at] + text[at + 1:]
        yield text[:at] + text[at:at + 1] + text[at:]
        for sign in [" ", "\n", "0", "1", "-", "+", "/", "_", ".", "h", chance.choice(SIGNS), chance.choice(SIGNS)]:
            yield text[:at] + sign + text[at:]
            yield text[:at] + sign + text[at + 1:]
        yield text[:at] + text[at + 1:at + 2] + text[at:at + 1] + text[at + 2:]
    words = text.split(" ")
    for at in range(len(words)):
        yield " ".join(words[:at] + words[at + 1:])
        yield " ".join(words[:at] + [words[at]] + words[at:])
    yield from [text + "\n", "\n" + text, text + " ", " " + text, text + "\n" + text, text + " " + text, text.upper(),
                text.replace("\n", " "), text.replace("\n", "\n\n"), text.replace("\n", " \n"), text.replace(" ", "\n"),
                text.replace("\n", "\n "), text.replace(" ", "  "), text.replace("\n", "\r\n"), text.replace(" ", "\t"),
                text.replace("\n", ""), "\n".join(reversed(text.split("\n"))), "[" + text + "]", text[:200], ""]


class Reads(Exact):
    """The texts that are read are just those that are written; of each kind its two deeds, and some of its texts."""

    def assert_both_ways(self, thing, text):
        told = self.show(thing)
        self.assert_told(told, text)
        self.assert_told(self.read(told), thing)

    def assert_not_read(self, texts):
        for text in texts:
            with self.subTest(text=text):
                self.assert_refused(NoText, self.read, text)

    def is_read(self, text):
        """A text is refused, or what it is read as is written just so."""
        try:
            told = self.read(text)
        except NoText:
            return False
        self.assertEqual(self.show(told), text)
        return True

    def test_by_hand(self):
        for thing, text in self.written:
            self.assert_both_ways(thing, text)

    def test_texts_changed(self):
        chance = random.Random(1)
        found = [self.is_read(other) for thing, text in self.written for other in changed_texts(text, chance)]
        self.assertGreater(found.count(True), 2)

    def test_things_that_are_no_texts(self):
        good = [text for thing, text in self.written]
        self.assert_not_read([thing for thing in OTHER_THINGS if thing not in good])
        self.assert_not_read([thing for thing, text in self.written])
        self.assert_not_read([(good[0],), [good[0]], good[0].split("\n"), [good], good[0].encode()])

    def test_nothing_is_changed(self):
        for thing, text in self.written:
            self.assert_unchanged(self.show, thing)
            self.assert_unchanged(self.read, text)


class Turnings(Reads, unittest.TestCase):
    read = staticmethod(read_turning)
    show = staticmethod(show_turning)
    written = TURNINGS

    def test_small_ones(self):
        for word in short_words(9):
            one = spelled(word)
            self.assert_both_ways(one, "{} {} {} {}".format(*one))

    def test_many_figures(self):
        for seed in range(40):
            one = spelled(long_word(20 * seed, seed))
            self.assert_both_ways(one, "{} {} {} {}".format(*one))
        for figures in list(range(1, 140)) + [299, 300]:
            for many in [10 ** (figures - 1), 10 ** figures - 1, whole_of(figures, 4), 10 ** (figures - 1) + 7]:
                for one in [(1, many, 0, 1), (1, -many, 0, 1), (1, 0, many, 1), (-1, 0, many, -1)]:
                    self.assert_both_ways(one, "{} {} {} {}".format(*one))

    def test_more_figures_than_python_writes(self):
        self.addCleanup(sys.set_int_max_str_digits, sys.get_int_max_str_digits())
        ones = [row_product(FIVE, some_short_row(FIVE, 400, 30, 1)), product(*[(3, 4, 2, 3)] * 8000),
                (1, -(10 ** 6400), 0, 1), (1, 10 ** 6400 - 1, 0, 1), (1, 10 ** 4300, 0, 1), (1, 10 ** 4299, 0, 1)]
        told = [show_turning(one) for one in ones]
        read = [read_turning(text) for text in told]
        sys.set_int_max_str_digits(0)
        for one, text, back in zip(ones, told, read):
            self.assertEqual(text, "{} {} {} {}".format(*one))
            self.assertEqual(back, one)
        self.assertGreater(max(map(len, told)), 20000)

    def test_refused_by_hand(self):
        self.assert_not_read([
            "", " ", "\n", "1", "1 0 0", "1 0 0 1 ", " 1 0 0 1", "1 0 0 1\n", "\n1 0 0 1", "1 0 0 1 0", "1  0 0 1",
            "1 0\n0 1", "01 0 0 1", "1 00 0 1", "1 -0 0 1", "+1 0 0 1", "1 +0 0 1", "1 0 0 +1", "-1 0 0 -1",
            "0 1 -1 0", "1 0 0 2", "1 1 1 1", "0 0 0 0", "1,0,0,1", "1, 0, 0, 1", "(1, 0, 0, 1)", "1 0 0 1.0",
            "1 0 0 1e0", "1 1_0 0 1", "1 0x1 0 1", "1 - 0 1", "1 --1 0 1", "1 -01 0 1", "1 1- 0 1", "a b c d",
            "1\t0\t0\t1", "1 0 0 one", "1/0 0/1", "- - - -", "nothing", "1 -0 0 1", "1 ~ 0 1", "0 -1 1 -0"])


class Fans(Reads, unittest.TestCase):
    read = staticmethod(read_fan)
    show = staticmethod(show_fan)
    written = FAN_TEXTS

    def test_fans(self):
        for fan in list(small_fans(4)) + big_fans(5):
            row = "fan " + " ".join("{}/{}".format(*each) for each in fan[0])
            self.assert_both_ways(fan, row + "\nmarks " + " ".join(map(str, fan[1])))

    def test_refused_by_hand(self):
        good = "fan 1/0 0/1\nmarks half third"
        self.assert_told(read_fan(good), TWO)
        self.assert_not_read([
            "", "fan", "marks", "fan\nmarks", "fan 1/0 0/1", "marks half third", "marks half third\nfan 1/0 0/1",
            good + "\n", "\n" + good, " " + good, good + " ", good + "\n\n", good.replace("\n", "\n\n"),
            good.replace("\n", " \n"), good.replace("\n", "\n "), good.replace("\n", " "), good + "\n" + good,
            "Fan 1/0 0/1\nmarks half third", "fan 1/0  0/1\nmarks half third", "fan 1/0 0/1\nmarks half  third",
            "fan 1/0 0/1\nmark half third", "fans 1/0 0/1\nmarks half third", "fan 1/0 0/1\nmarks Half third",
            "fan 1/0 0/1\nmarks half", "fan 1/0 0/1\nmarks half third third", "fan 1/0\nmarks half third",
            "fan 1/0 0/1\nmarks half half", "fan 1/0 0/1\nmarks 1 0", "fan 1 0/1\nmarks half third",
            "fan 1/0 0\nmarks half third", "fan 1/0 0/1/1\nmarks half third", "fan 1/0 /1\nmarks half third",
            "fan 1/0 0/\nmarks half third", "fan 1/0 -0/1\nmarks half third", "fan 1/0 00/1\nmarks half third",
            "fan 1/00 0/1\nmarks half third", "fan 1/0 0/01\nmarks half third", "fan +1/0 0/1\nmarks half third",
            "fan -1/0 0/1\nmarks half third", "fan 1/0 0/-1\nmarks half third", "fan 1/0 0/2\nmarks half third",
            "fan 1/0 0 /1\nmarks half third", "fan 0/1 1/0\nmarks half third", "fan 1/0 1/1\nmarks half third",
            "fan 1/0 0/1 1/1\nmarks half 02 1", "fan 1/0 0/1 1/1\nmarks half +2 1",
            "fan 1/0 0/1 1/1\nmarks half 1 2",
            "fan 1/0 0/1 1/1\nmarks half 2 -1", "fan 1/0 0/1 2/1\nmarks half 2 1", "fan 1/0 0/1 1/1\nmarks -0 2 1",
            "fan 1/0,0/1\nmarks half third", "fan 1/0 0/1\nmarks half third\n-",
            "fan 1/0 0/1\nmarks \"half\" third",
            "half 0\nthird 0", "1 0 0 1", "-"])


class Tables(Reads, unittest.TestCase):
    read = staticmethod(read_table)
    show = staticmethod(show_table)
    written = TABLE_TEXTS

    def test_tables(self):
        for table in list(small_tables(6)) + list(some_tables(2)):
            halves, thirds = (" ".join(map(str, leads)) for leads in table)
            self.assert_both_ways(table, "half " + halves + "\nthird " + thirds)

    def test_refused_by_hand(self):
        self.assert_not_read([
            "", "half", "half\nthird", "half \nthird ", "half 0", "third 0", "third 0\nhalf 0", "half 0\nthird 0\n",
            "\nhalf 0\nthird 0", " half 0\nthird 0", "half 0\nthird 0 ", "half 0 \nthird 0", "half 0\n third 0",
            "half 0\n\nthird 0", "half 0 third 0", "half  0\nthird 0", "half 0\nthird  0", "half 00\nthird 0",
            "half -0\nthird 0", "half 0\nthird +0", "half 0\nthird 1", "half 1\nthird 0", "half 0 0\nthird 0",
            "half 0\nthird 0 1", "half 0 1\nthird 0 1", "half 1 0\nthird 1 0", "half 1 0\nthird 0 01",
            "half 2 1 0\nthird 1 2 0", "Half 0\nthird 0", "halves 0\nthirds 0", "half 0\nthird 0\nhalf 0",
            "half None\nthird 0", "half 0,\nthird 0", "half 0.0\nthird 0", "half a\nthird b", "1 0 0 1",
            "fan 1/0 0/1\nmarks half third", "half 0\nthird 0\n\n", "half 0 -\nthird 0 -"])

    def test_sixty_places_and_more(self):
        for count in (59, 60, 61, 62, 63):
            halves, thirds = chain(count)
            text = "half " + " ".join(map(str, halves)) + "\nthird " + " ".join(map(str, thirds))
            if count <= 60:
                self.assert_told(read_table(text), (halves, thirds))
            else:
                self.assert_not_read([text])

    def test_what_was_told_is_written_and_read(self):
        for fan in FANS + [some_fan(9, 2)]:
            table = read_table(show_table(table_of(read_fan(show_fan(fan)))))
            self.assert_told(table, table_of(fan))
            self.assert_told(table_of(read_fan(show_fan(fan_of(table)))), table)


def chain(count):
    """Threes that r leads round, each with s to the next one, numbered as they are met; at the end what is left."""
    halves, thirds = list(range(count)), list(range(count))
    for at in range(0, count - 2, 3):
        thirds[at], thirds[at + 1], thirds[at + 2] = at + 1, at + 2, at
        if at + 3 < count:
            halves[at + 2], halves[at + 3] = at + 3, at + 2
    if count % 3 == 2:
        halves[count - 4], halves[count - 1] = count - 1, count - 4
    return told_anew(halves, thirds, 0)


class Glues(Exact, unittest.TestCase):
    def test_by_hand(self):
        for glues, due in [
                ((), "-"), (((0, 1),), "0^1"), (((0, -1),), "0^-1"), (((3, 2), (0, -14)), "3^2 0^-14"),
                (((21, 999999999999), (1, 1), (2, 2)), "21^999999999999 1^1 2^2"),
                (((0, 30),), "0^30"), (((0, -10 ** 70),), "0^-1" + "0" * 70)]:
            self.assert_told(show_glues(glues), due)

    def test_rows(self):
        for seed, fan in enumerate(FANS + big_fans(1)):
            for many in range(25):
                row = some_row(fan, many, 100, seed)
                due = " ".join(f"{gap}^{power}" for gap, power in row) or "-"
                self.assert_told(show_glues(row), due)

    def test_nothing_is_changed(self):
        self.assert_unchanged(show_glues, ((0, 1), (1, 1)))
        self.assert_unchanged(show_turning, undone(THIRD))


if __name__ == "__main__":
    unittest.main()
