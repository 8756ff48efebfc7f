"""Turnings, words, fans and tables made and reckoned here, without the program."""

import itertools
import random
import re

NOTHING = (1, 0, 0, 1)
HALF = (0, -1, 1, 0)
THIRD = (0, -1, 1, -1)
LETTERS = {"s": HALF, "r": THIRD, "q": (1, -1, 1, 0)}
NOT_SHORT = re.compile("ss|[rq][rq]")

# Fans by hand.
TWO = (((1, 0), (0, 1)), ("half", "third"))
BOTH_THIRDS = (((1, 0), (0, 1)), ("third", "third"))
THREE = (((1, 0), (0, 1), (1, 1)), ("half", 2, 1))
FOUR = (((1, 0), (-1, 1), (0, 1), (1, 1)), (3, "half", "third", 0))
FIVE = (((1, 0), (-1, 1), (0, 1), (1, 2), (1, 1)), (3, "third", "half", 0, "half"))
PAIRS = (((1, 0), (-1, 1), (-1, 2), (0, 1), (1, 2), (1, 1)), (5, 4, 3, 2, 1, 0))
FANS = [TWO, BOTH_THIRDS, THREE, FOUR, FIVE, PAIRS]

# Tables by hand: of all turnings; of those with s evenly often; with r and q coming round; of those in both of these;
# one of three places, numbered from each of them; and its core.
ALL = ((0,), (0,))
EVEN_HALVES = ((1, 0), (0, 1))
ROUND_THIRDS = ((0, 1, 2), (1, 2, 0))
SIX = ((1, 0, 3, 2, 5, 4), (2, 3, 4, 5, 0, 1))
FROM_NOUGHT = ((0, 2, 1), (1, 2, 0))
FROM_ONE = ((1, 0, 2), (1, 2, 0))
FROM_TWO = ((1, 0, 2), (2, 0, 1))
PLAIN_TWO = ((1, 0, 4, 5, 2, 3), (2, 3, 5, 4, 1, 0))


def upright(a, b, c, d):
    """Of four numbers of determinant 1 and their contraries those that are the turning."""
    return (a, b, c, d) if (c, d) > (0, 0) else (-a, -b, -c, -d)


def product(*ones):
    """The product of turnings, in order."""
    told = NOTHING
    for e, f, g, h in ones:
        a, b, c, d = told
        told = upright(a * e + b * g, a * f + b * h, c * e + d * g, c * f + d * h)
    return told


def undone(one):
    """The contrary of a turning."""
    a, b, c, d = one
    return upright(d, -b, -c, a)


def spelled(word):
    """The product of a word's letters."""
    return product(*[LETTERS[letter] for letter in word])


def letters_of(one):
    """A word of the turning, by steps along 1/0 and half turns that make the lower number less."""
    word = ""
    while one[2] != 0:
        step = one[0] // one[2]
        one = product(HALF, (1, -step, 0, 1), one)
        word += ("qs" * step if step > 0 else "sr" * -step) + "s"
    return word + ("qs" * one[1] if one[1] > 0 else "sr" * -one[1])


def short_form(word):
    """The short word with the same turning."""
    letters = ""
    for letter in word:
        pair = letters[-1:] + letter
        if pair in ("ss", "rq", "qr"):
            letters = letters[:-1]
        elif pair in ("rr", "qq"):
            letters = letters[:-1] + ("q" if letter == "r" else "r")
        else:
            letters += letter
    return letters


def from_behind(word):
    """The letters from behind, r and q exchanged."""
    return "".join({"s": "s", "r": "q", "q": "r"}[letter] for letter in reversed(word))


def short_words(most):
    """All short words of at most so many letters."""
    words = [""]
    for word in words:
        yield word
        if len(word) < most:
            words += [word + letter for letter in "qrs" if not NOT_SHORT.search(word[-1:] + letter)]


def long_word(many, seed, letters="qr"):
    """A short word of so many letters, the same in every run; `letters` tells how often each of r and q comes."""
    chance = random.Random(seed)
    ahead = chance.choice(["", "s"])
    return (ahead + "".join(chance.choice(letters) + "s" for at in range(many)))[:many]


def fraction_rows(many):
    """All rows of so many fractions that a fan may have."""
    rows = {((1, 0), (0, 1))}
    for count in range(many - 2):
        rows = {grown for row in rows for grown in grown_rows(row)}
    return sorted(rows)


def grown_rows(row):
    """The row with one fraction more: ahead, behind, or between two."""
    yield row[:1] + ((row[1][0] - 1, 1),) + row[1:]
    yield row + ((row[-1][0] + 1, 1),)
    for at in range(2, len(row)):
        (p, q), (r, s) = row[at - 1], row[at]
        yield row[:at] + ((p + r, q + s),) + row[at:]


def all_marks(many):
    """All marks that so many gaps may have."""
    def filled(marks):
        if None not in marks:
            yield tuple(marks)
            return
        gap = marks.index(None)
        for mark in ["half", "third"]:
            yield from filled(marks[:gap] + [mark] + marks[gap + 1:])
        for other in range(gap + 1, many):
            if marks[other] is None:
                glued = list(marks)
                glued[gap], glued[other] = other, gap
                yield from filled(glued)
    return filled([None] * many)


def reckoned_places(fan):
    return 3 * (len(fan[0]) - 2) + list(fan[1]).count("third")


def small_fans(most):
    """All fans of at most so many fractions."""
    for many in range(2, most + 1):
        for row in fraction_rows(many):
            for marks in all_marks(many):
                if reckoned_places((row, marks)) > 0:
                    yield (row, marks)


def some_fan(many, seed):
    """A fan of so many fractions, marks of all kinds, the same in every run."""
    chance = random.Random(seed)
    row = ((1, 0), (0, 1))
    while len(row) < many:
        row = chance.choice(list(grown_rows(row)))
    marks = ["half"] * many
    gaps = chance.sample(range(many), many)
    pairs = chance.randrange(many // 2 + 1)
    for at in range(pairs):
        one, other = gaps[2 * at:2 * at + 2]
        marks[one], marks[other] = other, one
    room = 60 - 3 * (many - 2)
    for gap in gaps[2 * pairs:2 * pairs + chance.randrange(room + 1)]:
        marks[gap] = "third"
    if many == 2:
        marks = chance.choice([["half", "third"], ["third", "half"], ["third", "third"]])
    return (row, tuple(marks))


def big_fans(count):
    """So many fans of each number of fractions from two to twenty-two."""
    return [some_fan(many, 1000 * many + at) for many in range(2, 23) for at in range(count)]


def glue_of(fan, gap):
    """The glue of a gap, reckoned straight from the document."""
    row, marks = fan
    edges = [across(one, other) for one, other in zip(row, row[1:] + row[:1])]
    back = undone(edges[gap])
    if marks[gap] == "half":
        return product(edges[gap], HALF, back)
    if marks[gap] == "third":
        return product(edges[gap], HALF, THIRD, HALF, back)
    return product(edges[marks[gap]], HALF, back)


def across(one, other):
    """The turning whose edge these two neighbours are."""
    (p, q), (r, s) = one, other
    return upright(p, r, q, s) if p * s - q * r == 1 else upright(-p, r, -q, s)


def row_product(fan, glues):
    """The turning of a row of glues, power by power."""
    ones = []
    for gap, power in glues:
        one = glue_of(fan, gap)
        ones += [one if power > 0 else undone(one)] * abs(power)
    return product(*ones)


def some_row(fan, many, power, seed):
    """A row of so many glues, powers up to this one of either sign, the same in every run."""
    chance = random.Random(seed)
    return tuple((chance.randrange(len(fan[0])), chance.choice([-1, 1]) * chance.randint(1, power))
                 for at in range(many))


def is_due_short(fan, glues):
    """Whether a row is short, told over again from the document."""
    for at, (gap, power) in enumerate(glues):
        mark = fan[1][gap]
        if mark == "half" and power != 1 or mark == "third" and power not in [1, 2]:
            return False
        if type(mark) is int and mark < gap:
            return False
        if at > 0 and glues[at - 1][0] == gap:
            return False
    return True


def some_short_row(fan, many, power, seed):
    """A short row of at most so many glues, the same in every run."""
    chance = random.Random(seed)
    told = []
    for gap in chance.choices(range(len(fan[0])), k=many):
        mark = fan[1][gap]
        if type(mark) is int:
            gap, most = min(gap, mark), [-chance.randint(1, power), chance.randint(1, power)]
        else:
            most = [1] if mark == "half" else [1, 2]
        if not told or told[-1][0] != gap:
            told.append((gap, chance.choice(most)))
    return tuple(told)


def some_leads(many, seed):
    """Two lists by which s and r lead so many places on, all met from each; the same in every run."""
    chance = random.Random(seed)
    while True:
        halves, thirds = list(range(many)), list(range(many))
        order = chance.sample(halves, many)
        for at in range(0, many - many % 2 - 2 * chance.randrange(2), 2):
            one, other = order[at:at + 2]
            halves[one], halves[other] = other, one
        order = chance.sample(thirds, many)
        for at in range(0, many - many % 3 - 3 * chance.randrange(2), 3):
            one, other, last = order[at:at + 3]
            thirds[one], thirds[other], thirds[last] = other, last, one
        if len(reached(halves, thirds, 0)) == many:
            return halves, thirds


def reached(halves, thirds, first):
    """The places in the order in which they are met; None is passed over."""
    met, known = [first], {first, None}
    for place in met:
        for behind in (halves[place], thirds[place]):
            if behind not in known:
                met.append(behind)
                known.add(behind)
    return met


def told_anew(halves, thirds, first):
    """The places met, with their numbers."""
    met = reached(halves, thirds, first)
    return tuple(tuple(None if leads[place] is None else met.index(leads[place]) for place in met)
                 for leads in (halves, thirds))


def walked(table, word):
    """The place to which a word leads from 0; None where a place isn't led on."""
    halves, thirds = table
    place = 0
    for letter in word.replace("q", "rr"):
        place = (halves if letter == "s" else thirds)[place]
        if place is None:
            return None
    return place


def own_number(thing, many):
    return type(thing) is int and 0 <= thing < many


def is_own_table(thing):
    """Whether a thing is a table, told over again from the document."""
    if type(thing) is not tuple or [type(part) for part in thing] != [tuple, tuple]:
        return False
    halves, thirds = thing
    many = len(halves)
    if len(thirds) != many or not 1 <= many <= 60 or not all(own_number(each, many) for each in halves + thirds):
        return False
    if any(halves[halves[k]] != k or thirds[thirds[thirds[k]]] != k for k in range(many)):
        return False
    return told_anew(halves, thirds, 0) == thing


def some_table(many, seed):
    return told_anew(*some_leads(many, seed), 0)


def some_tables(count):
    """So many tables of each number of places from one to sixty."""
    for many in range(1, 61):
        for at in range(count):
            halves, thirds = some_leads(many, 100 * many + at)
            yield told_anew(halves, thirds, at % many)


def all_leads(many):
    """All pairs of exchanges by s and by r of so many places, whether all are met or not."""
    orders = list(itertools.permutations(range(many)))
    halves = [row for row in orders if all(row[row[k]] == k for k in range(many))]
    thirds = [row for row in orders if all(row[row[row[k]]] == k for k in range(many))]
    return itertools.product(halves, thirds)


def small_tables(most):
    for many in range(1, most + 1):
        for leads in all_leads(many):
            if told_anew(*leads, 0) == leads:
                yield leads


def telling_words(table):
    """Words that lead from 0 to 0, all of whose products are the table's group."""
    words = {0: ""}
    for place in range(len(table[0])):
        for letter, leads in zip("sr", table):
            words.setdefault(leads[place], words[place] + letter)
    return [words[place] + letter + from_behind(words[leads[place]])
            for place in words for letter, leads in zip("sr", table)]


def both(one, other):
    """The table of the meet, out of all pairs of places; None, where it has more than sixty."""
    many = len(other[0])
    halves, thirds = [[many * here + there for here in leads for there in others]
                      for leads, others in zip(one, other)]
    if len(reached(halves, thirds, 0)) > 60:
        return None
    return told_anew(halves, thirds, 0)
