"""The whole program: promises [1], [2] and [3], and that all of the interface is there."""

import importlib
import inspect
import random
import unittest

from fanglue.desk import Desk
from fanglue.ends import end_of, ends, glued_pairs, half_points, holes, third_points
from fanglue.errors import FanError, NoPaper, TooLong, TooMany
from fanglue.fans import gap_turning, look
from fanglue.folding import folded, led_to, open_place
from fanglue.fractions import are_neighbours, fraction, is_above, is_fraction
from fanglue.glues import glue, is_short_row, row_turning, short_row
from fanglue.looker import looked
from fanglue.places import fan_of, is_table, numbered, place_of, table_of, word_to
from fanglue.reading import read
from fanglue.rests import by_rests, judged, number_of
from fanglue.roads import keeper, kept
from fanglue.several import alike_at, core, is_within, meet, turned
from fanglue.sorts import alike_in, round_row, sort_of
from fanglue.texts import read_fan, read_table, read_turning, show_fan, show_glues, show_table, show_turning
from fanglue.turnings import contrary, edge, is_turning, led, times, turning, turning_between
from fanglue.words import is_short, is_word, shortened, turning_of, word_contrary, word_of
from reckoned import (
    ALL, FANS, FIVE, FOUR, NOTHING, PAIRS, SIX, big_fans, long_word, row_product, small_fans, some_fan, some_leads,
    some_row, some_table, some_tables, spelled)
from things import Exact, plain

# Each module with its functions, and how many things each is handed.
INTERFACE = {
    "fractions": {"is_fraction": 1, "fraction": 2, "are_neighbours": 2, "is_above": 2},
    "turnings": {"is_turning": 1, "turning": 4, "times": 2, "contrary": 1, "led": 2, "edge": 1, "turning_between": 2},
    "words": {"is_word": 1, "is_short": 1, "turning_of": 1, "word_of": 1, "shortened": 1, "word_contrary": 1},
    "fans": {"look": 1, "gap_turning": 2},
    "glues": {"glue": 2, "row_turning": 2, "is_short_row": 2, "short_row": 2},
    "reading": {"read": 2},
    "places": {"table_of": 1, "is_table": 1, "numbered": 3, "fan_of": 1, "word_to": 2, "place_of": 2},
    "folding": {"folded": 1, "open_place": 1, "led_to": 2},
    "several": {"meet": 2, "turned": 2, "core": 1, "is_within": 2, "alike_at": 2},
    "ends": {"ends": 1, "half_points": 1, "third_points": 1, "holes": 1, "glued_pairs": 1, "end_of": 2},
    "sorts": {"sort_of": 1, "round_row": 2, "alike_in": 3},
    "rests": {"by_rests": 2, "number_of": 1, "judged": 1},
    "roads": {"keeper": 1, "kept": 2},
    "looker": {"looked": 1},
    "texts": {"show_turning": 1, "show_fan": 1, "show_table": 1, "show_glues": 1, "read_turning": 1, "read_fan": 1,
              "read_table": 1},
}


def told_or_refused(deed, handed):
    """What is told, or the class and the values of the refusal."""
    try:
        return plain(deed(*handed))
    except FanError as refused:
        return (type(refused).__name__, vars(refused))


def askings():
    """Of each function some askings."""
    far, root = (1, 10 ** 12 - 1, 0, 1), (1, 0, -61)
    yield from [
        (is_fraction, ((1, 0),)), (fraction, (6, -4)), (fraction, (0, 0)), (are_neighbours, ((1, 0), (5, 1))),
        (is_above, ((1, 0), (5, 1))), (is_turning, (NOTHING,)), (turning, (0, 1, -1, 0)), (turning, (1, 1, 1, 1)),
        (times, ((1, 1, 0, 1), (0, -1, 1, 0))), (contrary, ((5, 2, 7, 3),)), (led, ((5, 2, 7, 3), (1, 2))),
        (edge, ((5, 2, 7, 3),)), (turning_between, ((1, 0), (0, 1))), (turning_between, ((1, 0), (1, 2))),
        (is_word, ("srq",)), (is_short, ("srrs",)), (turning_of, ("srrs",)), (word_of, (far,)), (word_of, ((5, 2, 7,
        3),)),
        (shortened, ("srrsss",)), (word_contrary, ("srq",)), (look, (None,)), (numbered, ([0, 2, 1], [1, 2, 0], 1)),
        (numbered, ([1, 2, 0], [1, 2, 0], 1)), (folded, ([(1, 1, 0, 1)],)), (folded, ([],)), (folded, ([far],)),
        (open_place, (((1, 0, None), (2, 0, 1)),)), (led_to, (((1, 0, None), (2, 0, 1)), "rs")), (sort_of, ((2, 1, 1,
        1),)),
        (by_rests, ("upper", 11)), (by_rests, ("plain", 11)), (keeper, (root,)), (keeper, (None,)),
        (looked, (("in", FOUR, (1, 8, 0, 1), ((0, 4),)),)), (looked, (("in", FOUR, (1, 8, 0, 1), ((0, 5),)),)),
        (show_glues, (((0, 4),),)), (show_turning, (far,)), (read_turning, ("1 0 0 1",)), (read_turning, ("1 0 0 2",)),
        (read_fan, ("fan 1/0 0/1\nmarks half third",)), (read_table, ("half 0\nthird 0",)), (read_table, ("half 0",)),
    ]
    for fan in [FOUR, FIVE, PAIRS, some_fan(12, 3)]:
        table = table_of(fan)
        one = row_product(fan, some_row(fan, 5, 3, 1))
        yield from [(deed, (fan,)) for deed in (look, table_of, glued_pairs, show_fan)]
        yield from [(deed, (table,)) for deed in (is_table, fan_of, core, ends, half_points, third_points, holes,
                                                  number_of, judged, show_table)]
        yield from [(gap_turning, (fan, 1)), (glue, (fan, 1)), (row_turning, (fan, some_row(fan, 5, 3, 1))),
                    (is_short_row, (fan, some_row(fan, 5, 3, 1))), (short_row, (fan, some_row(fan, 5, 3, 1)))]
        yield from [(deed, (fan, each)) for deed in (read, round_row) for each in (one, (1, 1, 0, 1), far)]
        yield from [(alike_in, (fan, one, one)), (alike_in, (fan, one, NOTHING)), (alike_in, (fan, far, one))]
        yield from [(word_to, (table, 3)), (place_of, (table, one)), (turned, (table, (5, 2, 7, 3))), (turned, (table,
        far)),
                    (meet, (table, SIX)), (meet, (table, table)), (is_within, (table, SIX)), (alike_at, (table, table)),
                    (end_of, (table, (3, 7))), (end_of, (table, (10 ** 12 - 1, 1))), (kept, (table, root))]


class Interface(unittest.TestCase):
    def test_all_is_there(self):
        for name, deeds in INTERFACE.items():
            module = importlib.import_module("fanglue." + name)
            for deed, many in deeds.items():
                handed = inspect.signature(getattr(module, deed)).parameters.values()
                self.assertEqual([each.kind for each in handed], [inspect.Parameter.POSITIONAL_OR_KEYWORD] * many, deed)
        self.assertEqual(list(inspect.signature(Desk).parameters), [])
        self.assertEqual(len(inspect.signature(Desk().say).parameters), 1)

    def test_each_is_asked_below(self):
        asked = {deed.__name__ for deed, handed in askings()}
        self.assertEqual(asked, {deed for deeds in INTERFACE.values() for deed in deeds})


class Askings(Exact, unittest.TestCase):
    def test_nothing_that_is_handed_in_is_changed(self):
        for deed, handed in askings():
            before = plain(handed)
            told_or_refused(deed, handed)
            self.assertEqual(plain(handed), before, deed.__name__)

    def test_nothing_hangs_on_what_was_asked_before(self):
        rows = list(askings())
        first = [told_or_refused(*row) for row in rows]
        for seed in range(3):
            order = random.Random(seed).sample(range(len(rows)), len(rows))
            told = {at: told_or_refused(*rows[at]) for at in order}
            self.assertEqual([told[at] for at in range(len(rows))], first)

    def test_lists_told_are_the_askers_own(self):
        for deed, handed in askings():
            if deed in (ends, half_points, third_points):
                first = deed(*handed)
                kept_so = plain(first)
                first.insert(0, "changed")
                del first[1:]
                self.assertEqual(plain(deed(*handed)), kept_so)

    def test_lists_handed_in_may_be_changed_behind(self):
        halves, thirds = some_leads(20, 3)
        table = numbered(halves, thirds, 4)
        turnings = [(5, 2, 7, 3), (1, 4, 0, 1)]
        group = folded(turnings)
        before = plain((table, group))
        halves.reverse()
        thirds.clear()
        turnings[0] = None
        self.assertEqual(plain((table, group)), before)
        self.assertTrue(is_table(table))

    def test_only_a_desk_hangs_on_its_deeds(self):
        texts = ["table a\nhalf 0\nthird 0", "show a", "rests b upper 5", "meet c a b", "show c", "drop a", "show a",
                 "judge c", "alike b c", "fanof b"]
        for count in range(2):
            desk = Desk()
            self.assertEqual([told_or_refused(desk.say, (text,)) for text in texts],
                             [told_or_refused(Desk.say, (other, text)) for other in [Desk()] for text in texts])


class Together(Exact, unittest.TestCase):
    """What one part tells is taken by the others."""

    def test_fans_tables_words_and_turnings(self):
        for seed, fan in enumerate(list(small_fans(3)) + FANS + big_fans(2)):
            look(fan)
            table = table_of(fan)
            self.assertTrue(is_table(table))
            other = fan_of(table)
            look(other)
            self.assertEqual(table_of(other), table)
            looked(("same", other, table))
            looked(("same", fan, table))
            for gap in range(len(fan[0])):
                one = glue(fan, gap)
                self.assertTrue(is_turning(one))
                self.assertEqual(place_of(table, one), 0)
                kind, glues = read(other, one)
                self.assertEqual(kind, "in")
                self.assertEqual(row_turning(other, glues), one)
                looked(("in", other, one, glues))
            for place in range(1, len(table[0])):
                word = word_to(table, place)
                self.assertTrue(is_word(word) and is_short(word))
                looked(("out", table, word, place))
                self.assertEqual(read(fan, turning_of(word)), ("out", place))
                self.assertEqual(led_to(table, word), place)

    def test_what_is_told_in_and_out_is_one_row_or_one_place(self):
        for seed, fan in enumerate(FANS * 4 + big_fans(2)):
            table = table_of(fan)
            for at in range(10):
                word = long_word(3 * at, seed + at)
                one = spelled(word)
                kind, what = read(fan, one)
                self.assertEqual(kind == "in", place_of(table, one) == 0)
                if kind == "in":
                    self.assertTrue(is_short_row(fan, what))
                    self.assertEqual(short_row(fan, what), what)
                    self.assertEqual(row_turning(fan, what), one)
                else:
                    self.assertEqual(what, place_of(table, one))

    def test_groups(self):
        for seed, table in enumerate(some_tables(1)):
            one = spelled(long_word(15, seed))
            other = turned(table, one)
            self.assertEqual(turned(table, turning_of(word_to(table, alike_at(table, other)))), other)
            self.assertTrue(is_within(table, ALL))
            self.assertEqual(is_within(table, other), is_within(other, table))
            self.assertEqual((holes(table), sorted(width for width, place in ends(table))),
                             (holes(other), sorted(width for width, place in ends(other))))
            try:
                both = meet(table, other)
                inner = core(table)
            except TooMany:
                continue
            self.assertTrue(is_within(both, table) and is_within(both, other))
            self.assertTrue(is_within(inner, both))
            self.assertEqual(core(both), inner)
            looked(("same", fan_of(both), both))

    def test_ends_of_the_group(self):
        for seed, table in enumerate(some_tables(1)):
            fan = fan_of(table)
            self.assertEqual(glued_pairs(fan), 2 * holes(table) + len(ends(table)) - 1)
            for width, place in ends(table):
                top = led(turning_of(word_to(table, place)), (1, 0))
                told, one = end_of(table, top)
                self.assertEqual(told, width)
                self.assertEqual(led(one, top), top)
                self.assertEqual(sort_of(one), "end")
                self.assertEqual(read(fan, one)[0], "in")
                self.assertEqual(alike_in(fan, one, one)[0], "alike")

    def test_what_is_folded(self):
        for fan in FANS + [some_fan(many, many) for many in range(2, 13)]:
            gaps = [gap for gap, mark in enumerate(fan[1]) if type(mark) is str or mark > gap]
            if len(gaps) <= 8:
                self.assertEqual(folded([glue(fan, gap) for gap in gaps]), ("closed", table_of(fan)))
                kind, table = folded([glue(fan, gap) for gap in gaps[1:]])
                self.assertEqual(kind, "open")
                place, letter = open_place(table)
                self.assertIsNone(table[0 if letter == "s" else 1][place])

    def test_what_is_judged(self):
        for table in some_tables(2):
            try:
                kind, what = judged(table)
            except TooMany:
                self.assertGreater(number_of(table), 24)
                continue
            if kind == "leaver":
                looked(("leaver", table, number_of(table), what))
                self.assertNotEqual(place_of(table, what), 0)
                self.assertEqual(read(fan_of(table), what), ("out", place_of(table, what)))
            else:
                for other in (1, what, 2 * what):
                    refused = told_or_refused(looked, (("leaver", table, what, (1, other * what, 0, 1)),))
                    self.assertEqual(refused, ("NoPaper", {"at": 5}))

    def test_roads_of_the_group(self):
        for seed, table in enumerate(list(some_tables(1))[::5]):
            fan = fan_of(table)
            for root in [(1, -1, -1), (1, 0, -2), (3, -5, -7), (-2, 1, 5)]:
                power, one = kept(table, root)
                self.assertEqual(sort_of(one), "road")
                if power < 30:
                    self.assertEqual(place_of(table, one), 0)
                    row, by = round_row(fan, one)
                    self.assertEqual(times(times(contrary(by), row_turning(fan, row)), by), one)
                    self.assertEqual(alike_in(fan, one, times(times(contrary(by), one), by))[0], "alike")

    def test_texts_and_the_desk(self):
        for table in list(some_tables(1))[::4]:
            desk = Desk()
            self.assertEqual(desk.say("table a\n" + show_table(table)), "ok")
            self.assertEqual(desk.say("fan b\n" + desk.say("fanof a")), "ok")
            self.assertEqual(desk.say("same a b"), "yes")
            self.assertEqual(desk.say("table c\n" + desk.say("show b")), "ok")
            self.assertEqual(desk.say("alike a c"), "0")
            self.assertEqual(read_table(desk.say("show c")), table)
            self.assertEqual(read_fan(desk.say("fanof c")), read_fan(show_fan(fan_of(table))))
            self.assertEqual(desk.say("place a " + show_turning(turning_of(word_to(table, len(table[0]) - 1)))),
                             str(len(table[0]) - 1))


class ManyFigures(Exact, unittest.TestCase):
    """What was told is handed in again, whatever its figures."""

    def turnings(self):
        yield kept(some_table(60, 1), (1, -1, -1))[1]
        yield max([kept(some_table(60, seed), (86, 77, -99)) for seed in range(8)])[1]
        yield row_turning(FIVE, some_row(FIVE, 24, 100, 3))
        fan = (some_fan(22, 3)[0], tuple(range(21, -1, -1)))
        yield row_turning(fan, some_row(fan, 24, 100, 3))

    def test_turnings_of_thousands_of_figures(self):
        figures = 0
        for one in self.turnings():
            figures = max(figures, max(map(abs, one)).bit_length() * 3 // 10)
            self.assertTrue(is_turning(one))
            self.assertEqual(times(one, contrary(one)), NOTHING)
            self.assertEqual(turning_between(*edge(one)), one)
            self.assertTrue(all(is_fraction(each) for each in edge(one)))
            self.assertEqual(led(contrary(one), led(one, (3, 7))), (3, 7))
            self.assertEqual(read_turning(show_turning(one)), one)
            self.assertEqual(turning(*[-part for part in one]), one)
            self.assertEqual(sort_of(one), "road")
            self.assertRaises(NoPaper, looked, ("in", FOUR, one, ()))
            desk = Desk()
            desk.say("rests a upper 5")
            told = told_or_refused(desk.say, ("place a " + show_turning(one),))
            self.assertEqual(told, told_or_refused(lambda each: str(place_of(by_rests("upper", 5), each)), (one,)))
        self.assertGreater(figures, 4300)

    def test_too_long_to_be_read(self):
        for one in list(self.turnings())[1::2]:
            for deed, handed in [(word_of, (one,)), (read, (FOUR, one)), (place_of, (SIX, one)), (turned, (SIX, one)),
                                 (folded, ([one],)), (round_row, (FOUR, one)), (alike_in, (FOUR, NOTHING, one)),
                                 (end_of, (SIX, led(one, (1, 0))))]:
                self.assert_refused(TooLong, deed, *handed)


if __name__ == "__main__":
    unittest.main()
