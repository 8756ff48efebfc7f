"""The desk: promise [30], and [2] as it holds for it."""

import random
import unittest

from fanglue.desk import Desk
from fanglue.errors import FanError, Full, NoName, NoRow, NoText, NoTurning, Open, TooLong, TooMany
from fanglue.folding import folded
from fanglue.places import place_of, table_of
from fanglue.rests import by_rests, judged
from fanglue.several import alike_at, core, is_within, meet, turned
from fanglue.texts import read_fan, show_fan, show_table, show_turning
from reckoned import (
    ALL, EVEN_HALVES, FANS, FIVE, FOUR, FROM_NOUGHT, FROM_ONE, FROM_TWO, HALF, PAIRS, PLAIN_TWO, ROUND_THIRDS, SIX,
    THIRD, THREE, TWO, glue_of, long_word, small_tables, some_fan, some_leads, some_table, spelled, told_anew)
from things import OTHER_THINGS, Exact

SEVEN = next(table for table in small_tables(7) if len(table[0]) == 7 and judged(table)[0] == "leaver")
BIG = some_table(60, 1)
OTHER_BIG = some_table(59, 1)
FAN = "fan 1/0 0/1\nmarks half third"
# Each row with words that are due; x is told anew, and by a and b something stands.
ROWS = [
    "fan x\n" + FAN, "table x\nhalf 0\nthird 0", "fold x\n0 -1 1 0\n0 -1 1 -1", "rests x upper 2", "meet x a b",
    "turn x a 1 0 0 1", "core x a", "drop a", "show a", "fanof a", "place a 1 0 0 1", "ends a", "holes a", "within a b",
    "same a b", "alike a b", "judge a",
]
TELLERS = ROWS[:7]


class Desks(Exact):
    def desk_with(self, **tables):
        desk = Desk()
        for name, table in tables.items():
            self.assert_told(desk.say(f"table {name}\n{show_table(table)}"), "ok")
        return desk

    def names_of(self, desk):
        """Each name by which something stands, of those that the tests tell, with its table."""
        names = [first + second for first in ["", "a", "b", "x"] for second in "abcdefghijxyz"] + ["abcdefgh", "fan"]
        return {name: told for name in names for told in [self.said(desk, "show " + name)] if told is not NoName}

    def said(self, desk, text):
        """What is told, or the class of the refusal."""
        try:
            return desk.say(text)
        except FanError as refused:
            return type(refused)

    def assert_says(self, desk, text, due):
        self.assert_told(self.said(desk, text), due)

    def assert_refuses(self, desk, error, *texts):
        """Each text is refused so, and changes nothing."""
        for text in texts:
            before = self.names_of(desk)
            self.assert_refused(error, desk.say, text)
            self.assertEqual(self.names_of(desk), before, text)


class Kept(Desks, unittest.TestCase):
    def assert_keeps(self, desk, text, table):
        name = text.split("\n")[0].split(" ")[1]
        self.assert_says(desk, text, "ok")
        self.assert_says(desk, "show " + name, show_table(table))

    def test_fan(self):
        desk = Desk()
        for fan in FANS + [some_fan(22, 1), some_fan(9, 2)]:
            self.assert_keeps(desk, "fan a\n" + show_fan(fan), table_of(fan))
        self.assert_keeps(desk, "fan a\nfan 1/0 0/1\nmarks half third", ALL)

    def test_table(self):
        desk = Desk()
        for table in [ALL, SIX, PLAIN_TWO, BIG, SEVEN]:
            self.assert_keeps(desk, "table a\n" + show_table(table), table)
        self.assert_says(desk, "table a\nhalf 1 0\nthird 0 1", "ok")
        self.assert_says(desk, "show a", "half 1 0\nthird 0 1")

    def test_fold(self):
        desk = Desk()
        self.assert_keeps(desk, "fold a\n0 -1 1 0\n0 -1 1 -1", ALL)
        for fan in [TWO, THREE, FOUR, FIVE, PAIRS]:
            ones = [glue_of(fan, gap) for gap in range(len(fan[0])) if fan[1][gap] in ("half", "third")
                    or fan[1][gap] > gap]
            self.assert_keeps(desk, "fold a\n" + "\n".join(show_turning(one) for one in ones), table_of(fan))
        eight = ["0 -1 1 0", "0 -1 1 -1"] * 4
        self.assert_keeps(desk, "fold a\n" + "\n".join(eight), ALL)

    def test_fold_that_does_not_close(self):
        desk = self.desk_with(a=SIX)
        self.assert_refuses(desk, Open, "fold a\n", "fold b\n", "fold a\n1 1 0 1", "fold a\n0 -1 1 0",
                            "fold b\n1 0 0 1",
                            "fold b\n1 3 0 1\n1 0 3 1")
        self.assert_says(desk, "show a", show_table(SIX))

    def test_rests(self):
        desk = Desk()
        for kind in ["plain", "upper", "first"]:
            for number in range(1, 25):
                try:
                    due = by_rests(kind, number)
                except TooMany:
                    self.assert_refuses(desk, TooMany, f"rests a {kind} {number}")
                else:
                    self.assert_keeps(desk, f"rests a {kind} {number}", due)

    def test_meet(self):
        desk = self.desk_with(a=EVEN_HALVES, b=ROUND_THIRDS, c=BIG, d=OTHER_BIG)
        self.assert_keeps(desk, "meet x a b", SIX)
        self.assert_keeps(desk, "meet x b a", SIX)
        self.assert_keeps(desk, "meet x a a", EVEN_HALVES)
        self.assert_keeps(desk, "meet a a b", SIX)
        self.assert_refuses(desk, TooMany, "meet x c d", "meet c c d", "meet y d c")

    def test_turn(self):
        desk = self.desk_with(a=FROM_NOUGHT)
        self.assert_keeps(desk, "turn b a 0 -1 1 -1", FROM_ONE)
        self.assert_keeps(desk, "turn b a 0 1 -1 1", FROM_ONE)
        self.assert_keeps(desk, "turn b a 1 -1 1 0", FROM_TWO)
        self.assert_keeps(desk, "turn b a -1 1 -1 0", FROM_TWO)
        self.assert_keeps(desk, "turn a a 0 -1 1 -1", FROM_ONE)
        self.assert_keeps(desk, "turn a a -1 0 0 -1", FROM_ONE)
        self.assert_refuses(desk, NoTurning, "turn b a 1 0 0 2", "turn b a 0 0 0 0", "turn a a 1 1 1 1",
                            "turn x a 0 1 1 0")
        self.assert_refuses(desk, TooLong, "turn b a 1 1001 0 1", "turn x a 1 -999999999999 0 1", "turn a a 1 0 1001 1",
                            "turn a a " + show_turning(spelled(long_word(2001, 1))))
        one = spelled(long_word(1500, 1))
        self.assert_keeps(desk, "turn x a " + show_turning(one), turned(FROM_ONE, one))

    def test_core(self):
        desk = self.desk_with(a=FROM_NOUGHT, b=BIG)
        self.assert_keeps(desk, "core c a", PLAIN_TWO)
        self.assert_keeps(desk, "core a a", PLAIN_TWO)
        self.assert_refuses(desk, TooMany, "core c b", "core b b", "core x b")

    def test_drop(self):
        desk = self.desk_with(a=SIX, b=ALL)
        self.assert_says(desk, "drop a", "ok")
        self.assert_refuses(desk, NoName, "drop a", "show a", "meet b a b")
        self.assert_says(desk, "show b", show_table(ALL))
        self.assert_says(desk, "drop b", "ok")
        self.assertEqual(self.names_of(desk), {})

    def test_what_is_made_of_a_table_stays(self):
        desk = self.desk_with(a=FROM_NOUGHT)
        desk.say("turn b a 0 -1 1 -1")
        desk.say("table a\n" + show_table(SIX))
        self.assert_says(desk, "show b", show_table(FROM_ONE))
        desk.say("drop a")
        self.assert_says(desk, "show b", show_table(FROM_ONE))


class Asked(Desks, unittest.TestCase):
    def test_show_and_fanof(self):
        for table in [ALL, SIX, SEVEN, BIG, EVEN_HALVES] + list(small_tables(4)):
            desk = self.desk_with(a=table)
            self.assert_says(desk, "show a", show_table(table))
            self.assertEqual(table_of(read_fan(desk.say("fanof a"))), table)
        self.assert_says(self.desk_with(a=ALL), "show a", "half 0\nthird 0")

    def test_place(self):
        desk = self.desk_with(a=SIX, b=SEVEN, c=BIG)
        for row, due in [
                ("place a 1 0 0 1", "0"), ("place a 0 -1 1 0", "1"), ("place a 0 1 -1 0", "1"), ("place a 0 -1 1 -1",
                "2"),
                ("place a 1 1 0 1", "5"), ("place a 1 6 0 1", "0"), ("place a -1 0 0 -1", "0")]:
            self.assert_says(desk, row, due)
        for seed in range(30):
            one = spelled(long_word(3 * seed, seed))
            for name, table in [("a", SIX), ("b", SEVEN), ("c", BIG)]:
                self.assert_says(desk, f"place {name} {show_turning(one)}", str(place_of(table, one)))
        self.assert_refuses(desk, NoTurning, "place a 1 0 0 2", "place a 0 0 0 0", "place b 1 1 1 1")
        self.assert_refuses(desk, TooLong, "place a 1 1001 0 1", "place a 1 0 -999999999999 1")

    def test_ends_and_holes(self):
        for table, ends, holes in [
                (ALL, "1", "0"), (SIX, "6", "1"), (FROM_NOUGHT, "2 1", "0"), (FROM_ONE, "2 1", "0"),
                (PLAIN_TWO, "2 2 2", "0"), (by_rests("upper", 4), "1 4 1", "0"), (by_rests("upper", 11), "1 11", "1")]:
            desk = self.desk_with(a=table)
            self.assert_says(desk, "ends a", ends)
            self.assert_says(desk, "holes a", holes)

    def test_of_two(self):
        tables = {"a": ALL, "b": FROM_NOUGHT, "c": FROM_ONE, "d": PLAIN_TWO, "e": SIX, "f": FROM_NOUGHT}
        desk = self.desk_with(**tables)
        for one in tables:
            for other in tables:
                ones = tables[one], tables[other]
                self.assert_says(desk, f"within {one} {other}", "yes" if is_within(*ones) else "no")
                self.assert_says(desk, f"same {one} {other}", "yes" if ones[0] == ones[1] else "no")
                place = alike_at(*ones)
                self.assert_says(desk, f"alike {one} {other}", "no" if place is None else str(place))
        for row, due in [
                ("within d b", "yes"), ("within b d", "no"), ("within a a", "yes"), ("same b f", "yes"), ("same b c",
                "no"),
                ("alike b c", "1"), ("alike c b", "2"), ("alike b f", "0"), ("alike d e", "no"), ("alike a b", "no")]:
            self.assert_says(desk, row, due)

    def test_judge(self):
        wide = next(table for table in (some_table(many, 1) for many in range(20, 60)) if self.is_wide(table))
        desk = self.desk_with(a=ALL, b=SIX, c=SEVEN, d=wide, e=by_rests("upper", 24))
        self.assert_says(desk, "judge a", "rests 1")
        self.assert_says(desk, "judge b", "rests 6")
        self.assert_says(desk, "judge e", "rests 24")
        kind, one = judged(SEVEN)
        self.assert_says(desk, "judge c", "leaver {} {} {} {}".format(*one))
        self.assert_refuses(desk, TooMany, "judge d")

    def is_wide(self, table):
        try:
            judged(table)
        except TooMany:
            return True
        return False

    def test_asking_changes_nothing(self):
        desk = self.desk_with(a=SIX, b=SEVEN)
        before = self.names_of(desk)
        for row in ROWS[8:]:
            first = self.said(desk, row)
            self.assertEqual(self.said(desk, row), first)
        self.assertEqual(self.names_of(desk), before)


class Refused(Desks, unittest.TestCase):
    def test_each_row_is_known(self):
        for row in ROWS:
            desk = self.desk_with(a=FROM_NOUGHT, b=ALL)
            self.assertIs(type(desk.say(row)), str)

    def test_things_that_are_no_texts(self):
        desk = self.desk_with(a=SIX)
        for thing in OTHER_THINGS + [("show a",), ["show a"], b"show a"]:
            self.assert_refused(NoRow, desk.say, thing)
        self.assert_says(desk, "show a", show_table(SIX))

    def test_other_rows(self):
        self.assert_refuses(
            self.desk_with(a=SIX, b=ALL), NoRow, "", " ", "\n", "a", "show", "shows a", "Show a", "SHOW a", "show  a",
            " show a", "show a ", "show a b", "say a", "fan", "fan x", "table x", "fold x", "fan x y\n" + FAN,
            "fan\n" + FAN,
            "fan  x\n" + FAN, "fan x \n" + FAN, "\nfan x", "drop", "drop a b", "holes a b", "ends", "judge a b",
            "within a",
            "within a b a", "same a", "alike a b 0", "meet x a", "meet x a b a", "meet a", "core x", "core x a b",
            "core a",
            "turn x a 1 0 0", "turn x a 1 0 0 1 0", "turn x a", "turn x 1 0 0 1", "turn x a  1 0 0 1",
            "turn x a 1 0 0 1 ",
            "turn x a 1 0 0 ", "turn x a 1 0  1", "place a", "place a 1 0 0", "place a 1 0 0 1 1", "place a 1 0 0 ",
            "place a  0 0 1", "rests x plain", "rests x 2", "rests x plain 2 2", "rests x plain ", "rests x  2",
            "keep a",
            "rests x Plain 2", "rests x lower 2", "rests x upper2", "rests x kind 2", "help", "fanof", "fan of a",
            "show\ta", "show,a", "show a.", "-", "0", FAN, "half 0\nthird 0", "1 0 0 1", "show a;drop a")

    def test_line_feeds(self):
        desk = self.desk_with(a=SIX, b=ALL)
        for row in ROWS:
            if "\n" in row:
                self.assert_refuses(desk, NoRow, row.split("\n")[0])
            else:
                self.assert_refuses(desk, NoRow, row + "\n", row + "\n\n", row + "\n" + FAN, row + "\nshow a",
                                    "\n" + row)

    def test_names(self):
        desk = self.desk_with(a=FROM_NOUGHT, b=ALL)
        for row in ROWS:
            words = row.split("\n")[0].split(" ")
            for at in range(1, len(words)):
                if words[at] in ("a", "b", "x"):
                    for name in ["A", "a1", "1", "abcdefghi", "a_b", "", "-", "a-b", "Ab", "aB", "a\tb", "a.", "ab ",
                                 "\u00e4",
                                 "\u0430"]:
                        changed = " ".join(words[:at] + [name] + words[at + 1:])
                        self.assert_refuses(desk, NoRow, changed + row[len(" ".join(words)):])
        for name in ["a", "z", "abcdefgh", "zzzzzzzz", "fan", "show", "half", "ok"]:
            self.assert_says(desk, f"table {name}\nhalf 0\nthird 0", "ok")
            self.assert_says(desk, f"show {name}", "half 0\nthird 0")
            self.assert_says(desk, f"drop {name}", "ok")

    def test_nothing_stands_by_the_name(self):
        desk = self.desk_with(a=FROM_NOUGHT)
        self.assert_refuses(
            desk, NoName, "meet x a c", "meet x c a", "meet x c c", "meet a a c", "turn x c 1 0 0 1", "core x c",
            "drop c",
            "drop x", "show x", "fanof x", "place x 1 0 0 1", "ends x", "holes x", "within a x", "within x a",
            "within x x",
            "same a x", "same x a", "alike a x", "alike x a", "judge x", "turn a x 1 0 0 1", "core a x", "show ab",
            "show aa")

    def test_not_written_as_it_should_be(self):
        desk = self.desk_with(a=FROM_NOUGHT, b=ALL)
        for number in ["01", "+1", "-0", "1.0", "a", "-", "--1", "1-", "0x1", "1_0", "1e3", "one", "1/1", "00", "-01"]:
            for at in range(4):
                four = ["1", "0", "0", "1"]
                four[at] = number
                self.assert_refuses(desk, NoText, "turn x a " + " ".join(four), "place a " + " ".join(four))
            self.assert_refuses(desk, NoText, "rests x plain " + number, "rests a upper " + number)
        for number in ["0", "25", "-1", "-2", "100", "999999999999", "24.0", "024", "26", "-24"]:
            for kind in ["plain", "upper", "first"]:
                self.assert_refuses(desk, NoText, f"rests x {kind} {number}")

    def test_what_stands_behind(self):
        desk = self.desk_with(a=FROM_NOUGHT)
        table = "half 0\nthird 0"
        for behind in ["", " ", "\n", "x", FAN + "\n", "\n" + FAN, FAN + " ", " " + FAN, table, "1 0 0 1",
                       "fan 1/0 0/1\nmarks half half", "fan 1/0\nmarks half", "fan a\n" + FAN]:
            self.assert_refuses(desk, NoText, "fan x\n" + behind, "fan a\n" + behind)
        for behind in ["", " ", "\n", "x", table + "\n", "\n" + table, table + " ", " " + table, FAN, "1 0 0 1",
                       "half 0\nthird 1", "half 0 1\nthird 0 1", "half\nthird", "table a\n" + table]:
            self.assert_refuses(desk, NoText, "table x\n" + behind, "table a\n" + behind)
        one = "0 -1 1 0"
        for behind in [" ", "\n", "x", one + "\n", "\n" + one, one + " ", " " + one, one + "\n\n" + one, "0 1 -1 0",
                       "1 0 0 2", "1 0 0", "1 0 0 1 1", one + " " + one, "\n".join([one] * 9), "-", FAN, table,
                       "\n".join(["1 0 0 1"] * 9), one + "\n0 -1 1 -1\n1 0 0 -1", "0 -1 01 0", one + "\nx"]:
            self.assert_refuses(desk, NoText, "fold x\n" + behind, "fold a\n" + behind)

    def test_too_long_to_fold(self):
        desk = self.desk_with(a=SIX)
        self.assert_refuses(desk, TooLong, "fold x\n1 101 0 1", "fold a\n0 -1 1 0\n1 -101 0 1\n0 -1 1 -1",
                            "fold x\n1 999999999999 0 1")
        self.assert_refuses(desk, Open, "fold x\n1 100 0 1")

    def test_order(self):
        desk = self.desk_with(a=FROM_NOUGHT, b=BIG, c=OTHER_BIG)
        for text, due in [
                ("turn X nix 01 0 0 1", NoRow), ("turn x NIX 01 0 0 1", NoRow), ("turn x nix 01 0 0 1", NoName),
                ("turn x nix 1 0 0 2", NoName), ("turn x nix 1 99999 0 1", NoName), ("turn x a 01 0 0 2", NoText),
                ("turn x a 1 0 0 02", NoText), ("turn x a 1 0 0 2", NoTurning), ("turn x a 1 99999 0 1", TooLong),
                ("place nix 01 0 0 1", NoName), ("place a 01 0 0 2", NoText), ("place a 1 99999 0 2", NoTurning),
                ("place a 1 99999 0 1", TooLong), ("place nix 1 0 0 1\n", NoRow), ("show nix\n", NoRow),
                ("meet x nix B", NoRow), ("meet x nix b", NoName), ("meet x b c", TooMany), ("meet x b nix", NoName),
                ("rests X plain 99", NoRow), ("rests x none 99", NoRow), ("rests x plain 99", NoText),
                ("rests x plain 9", TooMany), ("fold X\nx", NoRow), ("fold x\nx\n1 999 0 1", NoText),
                ("fold x\n1 999 0 1\nx", NoText), ("fold x\n1 999 0 1", TooLong), ("fold x\n1 9 0 1", Open),
                ("core x nix", NoName), ("core x b", TooMany), ("fan X\nx", NoRow), ("fan x\nx", NoText),
                ("judge nix", NoName), ("within nix A", NoRow), ("within a nix", NoName)]:
            with self.subTest(text=text):
                self.assert_refuses(desk, due, text)

    def test_full_comes_last(self):
        desk = self.desk_with(a=FROM_NOUGHT, b=BIG, c=OTHER_BIG, d=ALL, e=ALL, f=ALL, g=ALL, h=ALL)
        for text, due in [
                ("turn X a 1 0 0 1", NoRow), ("turn x nix 1 0 0 1", NoName), ("turn x a 01 0 0 1", NoText),
                ("turn x a 1 0 0 2", NoTurning), ("turn x a 1 99999 0 1", TooLong), ("turn x a 1 0 0 1", Full),
                ("meet x b c", TooMany), ("meet x a d", Full), ("core x b", TooMany), ("core x a", Full),
                ("rests x plain 25", NoText), ("rests x plain 9", TooMany), ("rests x plain 2", Full),
                ("fold x\n1 999 0 1", TooLong), ("fold x\n1 9 0 1", Open), ("fold x\n", Open),
                ("fold x\n0 -1 1 0\n0 -1 1 -1", Full), ("fan x\nx", NoText), ("fan x\n" + FAN, Full),
                ("table x\nx", NoText), ("table x\nhalf 0\nthird 0", Full)]:
            with self.subTest(text=text):
                self.assert_refuses(desk, due, text)


class Names(Desks, unittest.TestCase):
    def full_desk(self):
        return self.desk_with(a=FROM_NOUGHT, b=ALL, c=SIX, d=ALL, e=ALL, f=ALL, g=ALL, h=SEVEN)

    def test_a_ninth_name(self):
        for text in TELLERS:
            self.assert_refuses(self.full_desk(), Full, text)

    def test_a_name_that_stands_is_told_anew(self):
        for text in TELLERS:
            for name in "abh":
                desk = self.full_desk()
                due = Desk()
                self.assert_says(desk, text.replace(" x", " " + name, 1), "ok")
                for row in ["table a\n" + show_table(FROM_NOUGHT), "table b\nhalf 0\nthird 0", text]:
                    due.say(row)
                self.assertEqual(desk.say("show " + name), due.say("show x"), text)
                self.assertEqual(len(self.names_of(desk)), 8)
                self.assert_refuses(desk, Full, text)

    def test_room_again_behind_a_drop(self):
        desk = self.full_desk()
        self.assert_refuses(desk, Full, "core x a")
        self.assert_says(desk, "drop d", "ok")
        self.assert_says(desk, "core x a", "ok")
        self.assert_refuses(desk, Full, "core d a")
        self.assert_refuses(desk, NoName, "show d")
        self.assert_says(desk, "show x", show_table(PLAIN_TWO))

    def test_eight_names(self):
        desk = Desk()
        names = ["a", "ab", "abc", "abcdefgh", "z", "zz", "b", "fan"]
        for at, name in enumerate(names):
            self.assert_says(desk, f"table {name}\n{show_table(some_table(at + 1, at))}", "ok")
        self.assert_refuses(desk, Full, "fan c\n" + FAN)
        for at, name in enumerate(names):
            self.assert_says(desk, "show " + name, show_table(some_table(at + 1, at)))

    def test_two_desks_know_nothing_of_one_another(self):
        one, other = self.full_desk(), Desk()
        self.assert_refuses(other, NoName, "show a", "drop a")
        self.assert_says(other, "table a\n" + show_table(SIX), "ok")
        self.assert_says(one, "show a", show_table(FROM_NOUGHT))
        self.assert_says(one, "drop a", "ok")
        self.assert_says(other, "show a", show_table(SIX))
        self.assert_refuses(one, NoName, "show a")
        for at in range(7):
            self.assert_says(other, "core " + "bcdefgh"[at] + " a", "ok")
        self.assert_says(one, "core a b", "ok")


class Deeds(Desks, unittest.TestCase):
    def test_many_deeds_with_what_they_come_to(self):
        """A dict by the side is told the same, deed by deed."""
        for seed in range(30):
            chance = random.Random(seed)
            desk, side = Desk(), {}
            for count in range(120):
                name, one, other = (chance.choice("abcdefghij") for at in range(3))
                row, table = chance.choice(self.deeds(name, one, other, side, chance))
                due = "ok"
                if table is None or (table is not DROP and name not in side and len(side) == 8):
                    due = NoName if table is None else Full
                elif table is DROP:
                    due = "ok" if side.pop(name, None) else NoName
                else:
                    side[name] = table
                self.assert_says(desk, row, due)
                self.assert_says(desk, "show " + one, show_table(side[one]) if one in side else NoName)
            for name in "abcdefghij":
                self.assert_says(desk, "show " + name, show_table(side[name]) if name in side else NoName)

    def deeds(self, name, one, other, side, chance):
        """Rows with the tables that they tell; None, where a name does not stand."""
        table = told_anew(*some_leads(chance.randint(1, 5), chance.random()), 0)
        turning = spelled(long_word(chance.randrange(9), chance.random()))
        there = one in side and other in side
        small = there and len(side[one][0]) * len(side[other][0]) <= 60
        rows = [(f"table {name}\n{show_table(table)}", table), (f"drop {name}", DROP),
                (f"turn {name} {one} {show_turning(turning)}", turned(side[one], turning) if one in side else None)]
        if small or not there:
            rows.append((f"meet {name} {one} {other}", meet(side[one], side[other]) if small else None))
        if one not in side or len(side[one][0]) < 5:
            rows.append((f"core {name} {one}", core(side[one]) if one in side else None))
        return rows

    def test_what_is_folded_is_as_the_functions_tell(self):
        desk = Desk()
        for seed in range(40):
            ones = [spelled(long_word(1 + seed % 5, 7 * seed + at)) for at in range(1 + seed % 8)]
            kind, table = folded(ones)
            told = self.said(desk, "fold a\n" + "\n".join(show_turning(one) for one in ones))
            self.assertEqual(told, "ok" if kind == "closed" else Open)
            if kind == "closed":
                self.assert_says(desk, "show a", show_table(table))
        self.assertEqual(folded([HALF, THIRD])[0], "closed")


DROP = object()


if __name__ == "__main__":
    unittest.main()
