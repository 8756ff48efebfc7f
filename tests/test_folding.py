"""Groups told by turnings: promises [16] and [17], what [3] says of them, and [2] as it holds for them."""

import random
import unittest

from fanglue.errors import TooLong
from fanglue.folding import folded, led_to, open_place
from fanglue.places import is_table, table_of, word_to
from fanglue.reading import read
from fanglue.words import word_of
from reckoned import (
    FANS, FIVE, FOUR, HALF, NOTHING, THIRD, big_fans, from_behind, glue_of, long_word, product, row_product,
    short_words, small_fans, some_fan, some_short_row, spelled, told_anew, undone, walked)
from things import Exact, whole_of

NONE = ("open", ((None,), (None,)))
ALL = ("closed", ((0,), (0,)))


def free_gaps(fan):
    """The gaps whose glues tell the fan's group: of two glued ones the lesser."""
    return [gap for gap, mark in enumerate(fan[1]) if type(mark) is str or mark > gap]


def told_otherwise(ones, chance):
    """Turnings of the same group: contraries, products with one another, another order, at most eight."""
    ones = list(ones)
    for count in range(4):
        at = chance.randrange(len(ones))
        other = chance.randrange(len(ones))
        ones[at] = undone(ones[at])
        if at != other:
            ones[at] = product(ones[at], ones[other]) if chance.randrange(2) else product(ones[other], ones[at])
    if len(ones) < 8:
        ones.append(product(*chance.choices(ones, k=3)))
    if len(ones) < 8:
        ones.append(chance.choice(ones + [NOTHING]))
    chance.shuffle(ones)
    return ones


def letters_of(word):
    """The steps by s and r that a letter's leading asks for, each (letter, forward)."""
    return [("s", True) if letter == "s" else ("r", letter == "r") for letter in word]


def naive_steps(words):
    """All steps (letter, from, to) of loops from 0 by these words, each letter to a new place at first."""
    steps, many = set(), 1
    for word in words:
        place = 0
        for at, (letter, forward) in enumerate(letters_of(word)):
            behind, third = (0 if at == len(word) - 1 else many), many + 1
            many += 2
            if letter == "s":
                steps |= {("s", place, behind), ("s", behind, place)}
            elif forward:
                steps |= {("r", place, behind), ("r", behind, third), ("r", third, place)}
            else:
                steps |= {("r", behind, place), ("r", place, third), ("r", third, behind)}
            place = behind
    return steps


def clash(steps):
    """Two places that must be one: a place is led on, or led from, in one way by each letter."""
    seen = {}
    for letter, one, other in sorted(steps):
        for key, value in [((letter, "on", one), other), ((letter, "from", other), one)]:
            if seen.setdefault(key, value) != value:
                return sorted([seen[key], value])
    return None


def naive_folded(words):
    """The table of the group, by making one of two places at a time and cutting off what isn't needed."""
    steps = naive_steps(words)
    two = clash(steps)
    while two:
        steps = {(letter, *[two[0] if place == two[1] else place for place in places]) for letter, *places in steps}
        two = clash(steps)
    leads = {letter: {one: other for kind, one, other in steps if kind == letter} for letter in "sr"}
    places = sorted({0} | {place for letter, *places in steps for place in places})
    while cut_off(leads, places):
        pass
    halves = {place: leads["s"].get(place) for place in places}
    thirds = {place: leads["r"].get(place) for place in places}
    table = told_anew(halves, thirds, 0)
    return ("open" if None in table[0] + table[1] else "closed", table)


def cut_off(leads, places):
    """Cut off one thing that a least table doesn't have; whether there was one."""
    for place in places:
        if place != 0 and place not in leads["r"]:
            return drop(leads, places, [place])
        if place in leads["r"] and leads["r"][place] != place:
            three = [place, leads["r"][place], leads["r"][leads["r"][place]]]
            if sum(each == 0 or each in leads["s"] for each in three) <= 1:
                for each in three:
                    del leads["r"][each]
                return drop(leads, places, [each for each in three if each != 0])
    return False


def drop(leads, places, gone):
    for place in gone:
        places.remove(place)
        leads["r"].pop(place, None)
        leads["s"].pop(leads["s"].pop(place, None), None)
    return True


class Held(Exact):
    def assert_least(self, table):
        """An open table as the document asks for it."""
        self.assertIs(type(table), tuple)
        self.assertEqual([type(row) for row in table], [tuple, tuple])
        halves, thirds = table
        self.assertEqual(len(halves), len(thirds))
        self.assertIn(None, halves + thirds)
        for place in range(len(halves)):
            if halves[place] is not None:
                self.assertEqual(halves[halves[place]], place)
            if thirds[place] is None:
                self.assertEqual(place, 0)
            else:
                three = [place, thirds[place], thirds[thirds[place]]]
                self.assertEqual(thirds[three[2]], place)
                used = [each for each in three if each == 0 or halves[each] is not None]
                self.assertTrue(three[0] == three[1] or len(used) > 1, table)
        self.assert_told(told_anew(halves, thirds, 0), table)

    def assert_held(self, told):
        """Closed tables are tables, with at most forty-two places; open ones are the least."""
        kind, table = told
        if kind == "closed":
            self.assertIs(is_table(table), True)
            self.assertLessEqual(len(table[0]), 42)
        else:
            self.assertEqual(kind, "open")
            self.assert_least(table)


class Folded(Held, unittest.TestCase):
    def test_by_hand(self):
        for words, due in [
                ([], NONE), ([""], NONE), (["", ""], NONE), (["s"], ("open", ((0,), (None,)))),
                (["r"], ("open", ((None,), (0,)))), (["q"], ("open", ((None,), (0,)))), (["s", "r"], ALL),
                (["r", "srs"], ("closed", ((1, 0), (0, 1)))), (["srs"], ("open", ((1, 0), (None, 1)))),
                (["rsq"], ("open", ((None, 1, None), (1, 2, 0)))), (["qsr"], ("open", ((None, None, 2), (1, 2, 0)))),
                (["sr"], ("open", ((1, 0, None), (2, 0, 1)))), (["qs"], ("open", ((1, 0, None), (2, 0, 1)))),
                (["rs"], ("open", ((1, 0, None), (1, 2, 0)))), (["sq"], ("open", ((1, 0, None), (1, 2, 0)))),
                (["qs", "rs"], ALL), (["s", "rsr"], ("closed", ((0, 2, 1), (1, 2, 0)))),
                (["s", "rsq", "qsr"], ("closed", ((0, 1, 2), (1, 2, 0)))),
                (["qsqs", "rsrs"], ("closed", ((1, 0, 4, 5, 2, 3), (2, 3, 5, 4, 1, 0))))]:
            with self.subTest(words=words):
                told = folded([spelled(word) for word in words])
                self.assert_told(told, due)
                self.assert_told(told, naive_folded(words))

    def test_all_lists_of_few_short_words(self):
        words = list(short_words(4))
        for one in words:
            self.assert_told(folded([spelled(one)]), naive_folded([one]))
            for other in words:
                told = folded([spelled(one), spelled(other)])
                self.assert_held(told)
                self.assert_told(told, naive_folded([one, other]))

    def test_lists_of_one_to_eight(self):
        for seed in range(150):
            chance = random.Random(seed)
            words = [long_word(chance.randrange(1, 12), 1000 * seed + at) for at in range(1 + seed % 8)]
            told = folded([spelled(word) for word in words])
            self.assert_held(told)
            self.assert_told(told, naive_folded(words))

    def test_one_ahead_of_and_behind_another(self):
        for seed in range(60):
            one, mid = long_word(1 + seed % 9, seed), long_word(1 + seed % 5, seed + 77)
            turned = product(spelled(one), spelled(mid), undone(spelled(one)))
            told = folded([turned])
            self.assert_held(told)
            self.assertEqual(told[0], "open")
            self.assert_told(folded([undone(turned)]), told)

    def test_the_glues_of_fans(self):
        for fan in list(small_fans(4)) + FANS + [some_fan(many, seed) for many in range(2, 17) for seed in range(12)]:
            gaps = free_gaps(fan)
            if len(gaps) <= 8:
                due = ("closed", table_of(fan))
                self.assert_told(folded([glue_of(fan, gap) for gap in gaps]), due)
                self.assert_told(folded([glue_of(fan, gap) for gap in reversed(gaps)]), due)

    def test_forty_two_places(self):
        row = ((1, 0),) + tuple((k, 1) for k in range(15))
        for marks in [tuple(range(15, -1, -1)), tuple(k + 1 - 2 * (k % 2) for k in range(16))]:
            fan = (row, marks)
            told = folded([glue_of(fan, gap) for gap in free_gaps(fan)])
            self.assert_told(told, ("closed", table_of(fan)))
            self.assertEqual(len(told[1][0]), 42)

    def test_the_same_table_however_the_group_is_told(self):
        for seed, fan in enumerate(FANS * 4 + [some_fan(many, many) for many in range(2, 17)] * 3):
            chance = random.Random(seed)
            gaps = free_gaps(fan)[:7]
            gaps = chance.sample(gaps, chance.randint(1, len(gaps)))
            ones = [glue_of(fan, gap) for gap in gaps]
            told = folded(ones)
            self.assert_held(told)
            for count in range(4):
                others = told_otherwise(ones, chance)
                try:
                    self.assert_told(folded(others), told)
                except TooLong:
                    self.assertGreater(max(abs(part) for one in others for part in one), 50)

    def test_some_of_the_glues_tell_just_the_rows_of_these(self):
        for seed, fan in enumerate(FANS * 6 + big_fans(6)):
            chance = random.Random(seed)
            gaps = free_gaps(fan)
            some = chance.sample(gaps, chance.randrange(min(len(gaps), 9)))
            kind, table = folded([glue_of(fan, gap) for gap in some])
            self.assertEqual(kind, "closed" if set(some) == set(gaps) else "open")
            self.assert_held((kind, table))
            for count in range(12):
                row = some_short_row(fan, chance.randrange(1, 5), 2, chance.random())
                if count % 2:
                    row = tuple(each for each in row if each[0] in some)
                one = row_product(fan, row)
                short = read(fan, one)[1]
                inside = all(gap in some for gap, power in short)
                self.assertIs(led_to(table, word_of(one)) == 0, inside)

    def test_short_words_of_the_group_alone_lead_back(self):
        for fan in FANS[1:]:
            gaps = free_gaps(fan)
            for some in [gaps[:1], gaps[1:], gaps[:2], gaps[-1:]]:
                table = folded([glue_of(fan, gap) for gap in some])[1]
                for word in short_words(11):
                    kind, what = read(fan, spelled(word))
                    due = kind == "in" and all(gap in some for gap, power in what)
                    self.assertIs(walked(table, word) == 0, due)

    def test_of_none(self):
        self.assert_told(folded([]), NONE)
        for many in range(1, 9):
            self.assert_told(folded([NOTHING] * many), NONE)

    def test_nothing_among_them(self):
        for fan in FANS:
            ones = [glue_of(fan, gap) for gap in free_gaps(fan)][:6]
            self.assert_told(folded([NOTHING] + ones + [NOTHING]), folded(ones))

    def test_groups_are_one_just_where_the_tables_are(self):
        lots = [[long_word(1 + seed % 6, seed + at) for at in range(1 + seed % 3)] for seed in range(40)]
        tables = [folded([spelled(word) for word in words]) for words in lots]
        for words, told in zip(lots, tables):
            for others, other in zip(lots, tables):
                same = all(walked(other[1], word) == 0 for word in words) \
                    and all(walked(told[1], word) == 0 for word in others)
                self.assertIs(told == other, same)

    def test_two_hundred_letters_and_one_more(self):
        for letters in ["qs" * 100, "sr" * 100, "rs" * 100, "sq" * 100, long_word(200, 1), long_word(200, 2)]:
            told = folded([spelled(letters)])
            self.assert_held(told)
            self.assertEqual(walked(told[1], letters), 0)
            longer = [word for word in ["s" + letters, "r" + letters] if "ss" not in word and "rr" not in word]
            for word in [each for each in longer if "rq" not in each] + [letters * 2, letters * 11]:
                self.assert_refused(TooLong, folded, [spelled(word)])
                self.assert_refused(TooLong, folded, [HALF, spelled(word), THIRD])
                self.assert_refused(TooLong, folded, [spelled(word)] + [HALF] * 7)
                self.assert_refused(TooLong, folded, [HALF] * 7 + [spelled(word)])

    def test_far_along_an_end(self):
        for many, due in [(99, None), (100, None), (101, TooLong), (1001, TooLong), (10 ** 12, TooLong),
                          (whole_of(300, 9), TooLong)]:
            for one in [(1, many, 0, 1), (1, -many, 0, 1), (1, 0, many, 1), (-1, 0, many, -1)]:
                if due is None:
                    self.assert_held(folded([one]))
                else:
                    self.assert_refused(TooLong, folded, [one])
            self.assert_refused(TooLong, folded, [product(HALF, (1, max(many, 100), 0, 1))])

    def test_eight_of_two_hundred_letters(self):
        for seed in range(4):
            words = [long_word(200 - seed, 50 * seed + at) for at in range(8)]
            ones = [spelled(word) for word in words]
            told = folded(ones)
            self.assert_held(told)
            self.assertEqual(told[0], "open")
            for word in words:
                self.assertEqual(walked(told[1], word), 0)
            self.assert_told(folded(ones[::-1]), told)
            self.assert_told(folded([undone(one) for one in ones]), told)

    def test_eight_that_fold_far(self):
        head = long_word(90, 5)
        inner = ["s", "r", "rsq", "qsr"]
        ones = [product(spelled(head), spelled(word), undone(spelled(head))) for word in inner]
        told = folded(ones)
        self.assert_held(told)
        self.assert_told(folded(ones[:2]), told)
        self.assertEqual(walked(told[1], head + "s" + from_behind(head)), 0)

    def test_the_list_stays_and_may_be_changed_behind(self):
        ones = [glue_of(FIVE, gap) for gap in free_gaps(FIVE)]
        self.assert_unchanged(folded, ones)
        told = folded(ones)
        kept = repr(told)
        ones.clear()
        self.assertEqual(repr(told), kept)
        wrong = [HALF, (1, 10 ** 6, 0, 1)]
        self.assert_refused(TooLong, folded, wrong)
        self.assertEqual(wrong, [HALF, (1, 10 ** 6, 0, 1)])

    def test_what_was_asked_before_changes_nothing(self):
        first = folded([HALF])
        folded([HALF, THIRD])
        self.assert_told(folded([HALF]), first)
        self.assert_told(folded([]), NONE)


class LedTo(Held, unittest.TestCase):
    def words(self, seed):
        chance = random.Random(seed)
        yield from ["", "s", "r", "q", "ss", "rr", "rrr", "qq", "qqq", "rq", "qr", "srq", "ssrs", "sssr"]
        for count in range(60):
            yield "".join(chance.choices("srq", k=chance.randrange(1, 40)))
        yield "".join(chance.choices("srq", k=2000))

    def test_closed_tables(self):
        for seed, fan in enumerate(FANS + big_fans(2)):
            table = table_of(fan)
            for word in self.words(seed):
                self.assert_told(led_to(table, word), walked(table, word))
            for place in range(len(table[0])):
                self.assert_told(led_to(table, word_to(table, place)), place)

    def test_open_tables(self):
        for seed in range(60):
            words = [long_word(1 + seed % 14, 9 * seed + at) for at in range(1 + seed % 5)]
            kind, table = folded([spelled(word) for word in words])
            for word in list(self.words(seed)) + words + [words[0] * 3, words[-1] + words[0]]:
                self.assert_told(led_to(table, word), walked(table, word))

    def test_by_hand(self):
        nothing = ((None,), (None,))
        for table, word, due in [
                (nothing, "", 0), (nothing, "s", None), (nothing, "r", None), (nothing, "q", None),
                (nothing, "ss", None), (nothing, "rq", None), (((0,), (None,)), "sss", 0),
                (((0,), (None,)), "ssr", None), (((0,), (None,)), "rs", None),
                (((None,), (0,)), "rqr", 0), (((None,), (0,)), "rs", None),
                (((1, 0, None), (2, 0, 1)), "s", 1), (((1, 0, None), (2, 0, 1)), "sr", 0),
                (((1, 0, None), (2, 0, 1)), "q", 1), (((1, 0, None), (2, 0, 1)), "r", 2),
                (((1, 0, None), (2, 0, 1)), "rs", None), (((1, 0, None), (2, 0, 1)), "rss", None),
                (((1, 0, None), (2, 0, 1)), "rrrr", 2), (((1, 0), (None, 1)), "sq", 1),
                (((1, 0), (None, 1)), "q", None),
                (((0,), (0,)), "srqqsr", 0), (((0, 2, 1), (1, 2, 0)), "rss", 1), (((0, 2, 1), (1, 2, 0)), "rsq", 1)]:
            with self.subTest(table=table, word=word):
                self.assert_told(led_to(table, word), due)

    def test_nothing_is_changed(self):
        self.assert_unchanged(led_to, ((1, 0, None), (2, 0, 1)), "srqq")
        self.assert_unchanged(led_to, table_of(FOUR), "srqq")


class OpenPlace(Held, unittest.TestCase):
    def assert_place(self, table):
        halves, thirds = table
        due = min([(place, letter != "s", letter) for letter, leads in [("s", halves), ("r", thirds)]
                   for place, behind in enumerate(leads) if behind is None])
        self.assert_told(open_place(table), (due[0], due[2]))

    def test_by_hand(self):
        for table, due in [
                (((None,), (None,)), (0, "s")), (((0,), (None,)), (0, "r")), (((None,), (0,)), (0, "s")),
                (((1, 0), (None, 1)), (0, "r")), (((1, 0, None), (2, 0, 1)), (2, "s")),
                (((0, 1, None), (1, 2, 0)), (2, "s")), (((None, 1, None), (1, 2, 0)), (0, "s")),
                (((1, 0, None, 3), (None, 2, 3, 1)), (0, "r"))]:
            self.assert_told(open_place(table), due)

    def test_open_tables(self):
        found = set()
        for seed in range(300):
            words = [long_word(1 + seed % 14, 9 * seed + at) for at in range(seed % 5)]
            kind, table = folded([spelled(word) for word in words])
            if kind == "open":
                self.assert_place(table)
                found.add(open_place(table)[1])
        self.assertEqual(found, {"s", "r"})

    def test_some_glues_of_fans(self):
        for fan in FANS[1:] + big_fans(3):
            for gap in free_gaps(fan):
                kind, table = folded([glue_of(fan, gap)])
                if kind == "open":
                    self.assert_place(table)

    def test_nothing_is_changed(self):
        self.assert_unchanged(open_place, ((1, 0, None), (2, 0, 1)))


if __name__ == "__main__":
    unittest.main()
