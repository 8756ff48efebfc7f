"""Places and tables: promises [13], [14] and [15], what [3] says of them, and [2] as it holds for them."""

import itertools
import random
import unittest

from fanglue.errors import NoTable, TooLong
from fanglue.fans import look
from fanglue.places import fan_of, is_table, numbered, place_of, table_of, word_to
from fanglue.words import word_of
from reckoned import (
    BOTH_THIRDS, FANS, FIVE, FOUR, HALF, NOT_SHORT, NOTHING, PAIRS, THREE, TWO, all_leads, big_fans, glue_of,
    is_own_table, long_word, product, reckoned_places, row_product, short_words, small_fans, small_tables, some_fan,
    some_leads, some_row, some_tables, spelled, told_anew, undone, walked)
from things import NO_NUMBERS, OTHER_THINGS, Exact, whole_of

BY_HAND = [
    (TWO, ((0,), (0,))),
    (BOTH_THIRDS, ((1, 0), (0, 1))),
    (THREE, ((0, 2, 1), (1, 2, 0))),
    (FOUR, ((1, 0, 4, 5, 2, 3, 6), (2, 3, 5, 6, 4, 0, 1))),
    ((((1, 0), (0, 1)), ("third", "half")), ((0,), (0,))),
    ((((1, 0), (-1, 1), (0, 1)), ("half", "half", "third")), ((1, 0, 2, 3), (0, 2, 3, 1))),
    ((((1, 0), (-1, 1), (0, 1)), (2, "third", 0)), ((1, 0, 3, 2), (2, 0, 1, 3))),
]


def put(row, at, thing):
    return row[:at] + (thing,) + row[at + 1:]


def changed_tables(table, chance):
    """The table with one thing in it changed, left out, put in, exchanged, made another kind."""
    halves, thirds = table
    many = len(halves)
    yield from [[halves, thirds], (list(halves), thirds), (halves, list(thirds)), (thirds, halves), (halves,),
                (thirds,), (halves, thirds, thirds), (halves, thirds, ()), (halves, halves), (thirds, thirds),
                (halves[:-1], thirds), (halves, thirds[:-1]), (halves[:-1], thirds[:-1]), (halves[1:], thirds[1:]),
                (halves + (many,), thirds + (many,)), (halves + (0,), thirds), (halves + (many,), thirds),
                (halves + (0,), thirds + (0,)), halves + thirds, (table,), (halves, None), ("", thirds)]
    for count in range(30):
        at, other = chance.randrange(many), chance.randrange(many)
        for thing in [other, many, many + 1, -1, other - many, -many - 1, True, False, None, str(other), (other,),
                      [other], 10 ** 299, -(10 ** 299), halves[at] + 1, thirds[at] - 1, halves[at] - many,
                      thirds[at] - many]:
            yield (put(halves, at, thing), thirds)
            yield (halves, put(thirds, at, thing))
        yield (put(put(halves, at, halves[other]), other, halves[at]), thirds)
        yield (halves, put(put(thirds, at, thirds[other]), other, thirds[at]))
        yield renamed(table, chance.sample(range(many), many))
        swap = list(range(many))
        swap[at], swap[other] = other, at
        yield renamed(table, swap)


def renamed(table, names):
    """The table with each place called otherwise."""
    rows = []
    for leads in table:
        row = [None] * len(names)
        for place, behind in enumerate(leads):
            row[names[place]] = names[behind]
        rows.append(tuple(row))
    return tuple(rows)


def first_words(table):
    """The first short word to each place: of each length the first by end and last letter, until all are met."""
    ends = {(0, ""): ""}
    found = {}
    while len(found) < len(table[0]):
        for (place, last), word in sorted(ends.items(), key=lambda pair: pair[1]):
            found.setdefault(place, word)
        longer = {}
        for (place, last), word in ends.items():
            for letter in "qrs":
                if not NOT_SHORT.search(last + letter):
                    behind = behind_letter(table, place, letter)
                    key = (behind, letter)
                    longer[key] = min(longer.get(key, "z"), word + letter)
        ends = longer
    return found


def behind_letter(table, place, letter):
    halves, thirds = table
    return {"s": halves[place], "r": thirds[place], "q": thirds[thirds[place]]}[letter]


class TableOf(Exact, unittest.TestCase):
    def assert_table(self, fan):
        """These together leave just one table: its group holds the fan's and has as many places."""
        told = table_of(fan)
        self.assertTrue(is_own_table(told), told)
        self.assertEqual(len(told[0]), reckoned_places(fan))
        for gap in range(len(fan[0])):
            self.assertEqual(walked(told, word_of(glue_of(fan, gap))), 0)
        return told

    def test_all_small_fans(self):
        for fan in small_fans(5):
            self.assert_table(fan)

    def test_fans_of_two_to_twenty_two(self):
        for fan in FANS + big_fans(12):
            self.assert_table(fan)

    def test_kinds(self):
        for fan in big_fans(1):
            told = table_of(fan)
            self.assertIs(type(told), tuple)
            self.assertEqual([type(row) for row in told], [tuple, tuple])
            self.assertEqual({type(each) for row in told for each in row}, {int})

    def test_by_hand(self):
        for fan, due in BY_HAND:
            with self.subTest(fan=fan):
                self.assert_told(table_of(fan), due)

    def test_one_table_just_where_one_group(self):
        fans = list(small_fans(4))[::2]
        tables = [table_of(fan) for fan in fans]
        for fan, table in zip(fans, tables):
            glues = [word_of(glue_of(fan, gap)) for gap in range(len(fan[0]))]
            for other in tables:
                within = all(walked(other, word) == 0 for word in glues)
                self.assertIs(table == other, within and len(table[0]) == len(other[0]))

    def test_nothing_is_changed(self):
        for fan in [TWO, FOUR, FIVE]:
            self.assert_unchanged(table_of, fan)


class IsTable(Exact, unittest.TestCase):
    def test_all_small_pairs(self):
        for many in [0, 1, 2, 3]:
            rows = list(itertools.product(range(-1, many + 1), repeat=many))
            for halves, thirds in itertools.product(rows, repeat=2):
                self.assert_told(is_table((halves, thirds)), is_own_table((halves, thirds)))

    def test_all_small_exchanges(self):
        for many in [4, 5]:
            for leads in all_leads(many):
                self.assert_told(is_table(leads), is_own_table(leads))

    def test_tables_of_one_to_sixty_places(self):
        for table in some_tables(3):
            self.assert_told(is_table(table), True)

    def test_more_than_sixty_places(self):
        for many in [60, 61, 62, 63, 70, 100, 150]:
            halves, thirds = some_leads(many, many)
            self.assert_told(is_table(told_anew(halves, thirds, 0)), many == 60)

    def test_one_thing_changed(self):
        for seed, table in enumerate([due for fan, due in BY_HAND] + list(some_tables(1))[::3]):
            for other in changed_tables(table, random.Random(seed)):
                with self.subTest(other=other):
                    self.assert_told(is_table(other), is_own_table(other))

    def test_by_hand(self):
        for thing, due in [
                (((0,), (0,)), True), (((0, 1), (0, 1)), False), (((1, 0), (0, 1)), True), (((), ()), False),
                (((0,), ()), False), (((False,), (0,)), False), (((0,), (False,)), False), (((0,), (0,)), True),
                (((0, 2, 1), (1, 2, 0)), True), (((2, 1, 0), (1, 2, 0)), False), (((1, 0, 2), (1, 2, 0)), True),
                (((1, 0, 2), (2, 0, 1)), True), (((0, 1, 2), (1, 2, 0)), True), (((0, 1, 2), (2, 0, 1)), False),
                (((0, 2, 1), (True, 2, 0)), False), (((0, 2, True), (1, 2, 0)), False), (((0, 1), (1, 0)), False),
                (((1, 1), (0, 1)), False), (((0, 0), (0, 1)), False), (((1, 2, 0), (0, 1, 2)), False)]:
            self.assert_told(is_table(thing), due)

    def test_other_things(self):
        for thing in OTHER_THINGS:
            with self.subTest(thing=thing):
                self.assert_told(is_table(thing), thing == ((1, 0), (0, 1)))
        for wrong in NO_NUMBERS:
            self.assert_told(is_table(((wrong,), (0,))), False)
            self.assert_told(is_table(((0,), (wrong,))), False)
            self.assert_told(is_table((wrong, (0,))), wrong == (0,))
            self.assert_told(is_table(((1, wrong), (0, 1))), False)

    def test_nothing_is_changed(self):
        for thing in [((0,), (0,)), [[0], [0]], ([1, 0], [0, 1])]:
            self.assert_unchanged(is_table, thing)


class Numbered(Exact, unittest.TestCase):
    def test_all_small_lists(self):
        for many in [1, 2, 3]:
            rows = list(itertools.product(range(many), repeat=many))
            for halves, thirds in itertools.product(rows, repeat=2):
                for first in range(many):
                    self.assert_numbered(list(halves), list(thirds), first)

    def test_all_small_exchanges(self):
        for many in [4, 5]:
            for halves, thirds in all_leads(many):
                for first in range(many):
                    self.assert_numbered(list(halves), list(thirds), first)

    def assert_numbered(self, halves, thirds, first):
        many = len(halves)
        astray = any(halves[halves[k]] != k or thirds[thirds[thirds[k]]] != k for k in range(many))
        if astray or len(told_anew(halves, thirds, first)[0]) < many:
            self.assert_refused(NoTable, numbered, halves, thirds, first)
        else:
            self.assert_told(numbered(halves, thirds, first), told_anew(halves, thirds, first))

    def test_lists_numbered_at_random(self):
        for many in range(1, 61):
            for at in range(2):
                halves, thirds = some_leads(many, 7 * many + at)
                for first in {0, many - 1, many // 2, many // 3}:
                    told = numbered(halves, thirds, first)
                    self.assert_told(told, told_anew(halves, thirds, first))
                    self.assert_told(is_table(told), True)

    def test_the_same_however_the_places_were_called(self):
        for seed, table in enumerate(some_tables(1)):
            names = random.Random(seed).sample(range(len(table[0])), len(table[0]))
            halves, thirds = renamed(table, names)
            self.assert_told(numbered(list(halves), list(thirds), names[0]), table)

    def test_one_number_changed(self):
        for many in [6, 13, 30, 60]:
            halves, thirds = some_leads(many, many)
            chance = random.Random(many)
            for count in range(40):
                at, other = chance.randrange(many), chance.randrange(many)
                for rows in [(put(tuple(halves), at, other), thirds), (halves, put(tuple(thirds), at, other))]:
                    self.assert_numbered(list(rows[0]), list(rows[1]), at)

    def test_by_hand(self):
        for halves, thirds, first, due in [
                ([0], [0], 0, ((0,), (0,))), ([1, 0], [0, 1], 1, ((1, 0), (0, 1))), ([0, 1], [0, 1], 0, None),
                ([0, 1], [1, 0], 0, None), ([1, 1], [0, 1], 0, None), ([0, 2, 1], [2, 0, 1], 0, ((0, 2, 1), (1, 2, 0))),
                ([0, 2, 1], [1, 2, 0], 1, ((1, 0, 2), (1, 2, 0))), ([0, 2, 1], [1, 2, 0], 2, ((1, 0, 2), (2, 0, 1))),
                ([1, 0, 3, 2], [0, 1, 2, 3], 0, None), ([1, 2, 0], [1, 2, 0], 0, None),
                ([0, 1, 2], [1, 2, 0], 2, ((0, 1, 2), (1, 2, 0)))]:
            if due is None:
                self.assert_refused(NoTable, numbered, halves, thirds, first)
            else:
                self.assert_told(numbered(halves, thirds, first), due)

    def test_not_all_are_met(self):
        for many in [1, 2, 6, 20, 30]:
            halves, thirds = some_leads(many, many)
            halves += [k + many for k in halves]
            thirds += [k + many for k in thirds]
            for first in [0, many - 1, many, 2 * many - 1]:
                self.assert_refused(NoTable, numbered, halves, thirds, first)

    def test_the_lists_stay_and_may_be_changed_behind(self):
        halves, thirds = some_leads(30, 4)
        self.assert_unchanged(numbered, halves, thirds, 7)
        told = numbered(halves, thirds, 7)
        kept = (tuple(told[0]), tuple(told[1]))
        halves[0] = thirds[3] = 29
        halves.append(5)
        self.assert_told(told, kept)
        wrong = [1, 1, 2]
        self.assert_refused(NoTable, numbered, wrong, [0, 1, 2], 0)
        self.assertEqual(wrong, [1, 1, 2])


class FanOf(Exact, unittest.TestCase):
    def assert_fan(self, table):
        fan = fan_of(table)
        self.assertIsNone(look(fan))
        self.assertEqual([type(part) for part in fan], [tuple, tuple])
        self.assertEqual(reckoned_places(fan), len(table[0]))
        for gap in range(len(fan[0])):
            self.assertEqual(place_of(table, glue_of(fan, gap)), 0)
        self.assert_told(table_of(fan), table)

    def test_all_small_tables(self):
        for table in small_tables(6):
            self.assert_fan(table)

    def test_tables_of_one_to_sixty_places(self):
        for table in some_tables(6):
            self.assert_fan(table)

    def test_tables_of_fans(self):
        for fan in list(small_fans(4)) + FANS + big_fans(6):
            self.assert_fan(table_of(fan))

    def test_from_each_first_place(self):
        for many in [4, 7, 12, 31, 60]:
            halves, thirds = some_leads(many, 3 * many)
            for first in range(many):
                self.assert_fan(told_anew(halves, thirds, first))

    def test_nothing_is_changed(self):
        for fan, table in BY_HAND:
            self.assert_unchanged(fan_of, table)


class WordTo(Exact, unittest.TestCase):
    def test_all_small_tables(self):
        for table in small_tables(6):
            found = first_words(table)
            for place in range(len(table[0])):
                self.assert_told(word_to(table, place), found[place])

    def test_as_all_short_words_in_order_tell_it(self):
        for fan in FANS:
            table = table_of(fan)
            found = {}
            for word in sorted(short_words(11), key=lambda word: (len(word), word)):
                found.setdefault(walked(table, word), word)
            for place in range(len(table[0])):
                self.assert_told(word_to(table, place), found[place])

    def test_tables_of_one_to_sixty_places(self):
        for table in list(some_tables(2)) + [table_of(fan) for fan in big_fans(3)]:
            found = first_words(table)
            for place in range(len(table[0])):
                told = word_to(table, place)
                self.assert_told(told, found[place])
                self.assertIsNone(NOT_SHORT.search(told))
                self.assertEqual(walked(table, told), place)

    def test_by_hand(self):
        for fan, due in [(TWO, [""]), (BOTH_THIRDS, ["", "s"]), (THREE, ["", "r", "q"]),
                         (FOUR, ["", "s", "r", "qs", "rs", "q", "sq"])]:
            table = table_of(fan)
            self.assert_told([word_to(table, place) for place in range(len(table[0]))], due)

    def test_far_places(self):
        row = ((1, 0),) + tuple((k, 1) for k in range(21))
        table = table_of((row, ("half",) * 22))
        words = [word_to(table, place) for place in range(60)]
        self.assertEqual(words, [first_words(table)[place] for place in range(60)])
        self.assertGreater(max(len(word) for word in words), 30)

    def test_nothing_is_changed(self):
        self.assert_unchanged(word_to, table_of(FOUR), 6)


class PlaceOf(Exact, unittest.TestCase):
    def test_all_short_words_of_few_letters(self):
        for fan in FANS:
            table = table_of(fan)
            for word in short_words(10):
                self.assert_told(place_of(table, spelled(word)), walked(table, word))

    def test_tables_of_one_to_sixty_places(self):
        for seed, table in enumerate(some_tables(1)):
            for word in ["", "s", "r", "q", long_word(30, seed), long_word(501, seed), long_word(2000, seed)]:
                self.assert_told(place_of(table, spelled(word)), walked(table, word))
            for place in range(len(table[0])):
                self.assert_told(place_of(table, spelled(word_to(table, place))), place)

    def test_a_turning_of_the_group_ahead(self):
        for seed, fan in enumerate(FANS + big_fans(2)):
            table = table_of(fan)
            one = row_product(fan, some_row(fan, 3, 2, seed))
            self.assert_told(place_of(table, one), 0)
            for place in range(len(table[0])):
                self.assert_told(place_of(table, product(one, spelled(word_to(table, place)))), place)

    def test_two_turnings_of_one_place(self):
        for fan in FANS[2:]:
            table = table_of(fan)
            ones = [spelled(word) for word in short_words(5)]
            for one, other in itertools.product(ones, repeat=2):
                same = place_of(table, one) == place_of(table, other)
                self.assertIs(place_of(table, product(other, undone(one))) == 0, same)

    def test_more_than_two_thousand_letters(self):
        for table in [((0,), (0,)), table_of(FIVE), table_of(PAIRS), table_of(some_fan(22, 1))]:
            for word in ["qs" * 1000 + "q", "s" + "qs" * 1000, "sr" * 1001, long_word(2001, 3), long_word(3000, 4)]:
                self.assert_refused(TooLong, place_of, table, spelled(word))
            for many in [1001, 10 ** 6, 10 ** 12, 10 ** 299, whole_of(300, 6)]:
                for one in [(1, many, 0, 1), (1, -many, 0, 1), (1, 0, many, 1), (many, -1, 1, 0)]:
                    self.assert_refused(TooLong, place_of, table, one)
                self.assert_refused(TooLong, place_of, table, product(HALF, (1, many, 0, 1)))

    def test_a_thousand_steps_along_an_end(self):
        for fan in FANS + big_fans(1):
            table = table_of(fan)
            self.assert_told(place_of(table, (1, 1000, 0, 1)), walked(table, "qs" * 1000))
            self.assert_told(place_of(table, (1, -1000, 0, 1)), walked(table, "sr" * 1000))
            self.assert_told(place_of(table, NOTHING), 0)

    def test_nothing_is_changed(self):
        self.assert_unchanged(place_of, table_of(FOUR), (2, 1, 1, 1))


if __name__ == "__main__":
    unittest.main()
