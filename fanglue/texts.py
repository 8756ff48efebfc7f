"""Turnings, fans, tables and rows of glues, written as texts and read."""

from fanglue.errors import NoText
from fanglue.fans import is_fan
from fanglue.places import is_table
from fanglue.turnings import is_turning

FIGURES = "0123456789"
# Python's own writing and reading stops at some thousand figures, so numbers go by parts of so many.
PART = 64


def show_whole(number):
    """The figures of the number, - ahead below 0."""
    parts = []
    left = abs(number)
    while left >= 10 ** 64:
        left, part = divmod(left, 10 ** 64)
        parts.append(str(part).zfill(PART))
    parts.append(str(left))
    return ("-" if number < 0 else "") + "".join(parts[::-1])


def read_whole(text):
    """The number that is written so."""
    figures = text[1:] if text.startswith("-") else text
    if figures == "" or not all([sign in FIGURES for sign in figures]):
        raise NoText("this is no whole number")
    if figures[0] == "0" and text != "0":
        raise NoText("there is a needless nought, or a sign ahead of it")
    ahead = len(figures) % PART
    number = int("0" + figures[:ahead])
    for at in range(ahead, len(figures), PART):
        number = number * 10 ** 64 + int(figures[at:at + PART])
    return -number if text.startswith("-") else number


def show_words(words):
    """The words with blanks between."""
    return " ".join(words)


def show_turning(one):
    """The four numbers with blanks between."""
    return show_words([show_whole(part) for part in one])


def read_turning(text):
    """The turning that is written so."""
    if not isinstance(text, str):
        raise NoText("this is no text")
    one = tuple([read_whole(word) for word in text.split(" ")])
    if not is_turning(one):
        raise NoText("this writes no turning")
    return one


def read_rows(text, upper, lower):
    """The words of two rows behind these two first words."""
    rows = [row.split(" ") for row in text.split("\n")] if isinstance(text, str) else []
    if [row[0] for row in rows] != [upper, lower]:
        raise NoText("there are not just these two rows")
    return (rows[0][1:], rows[1][1:])


def show_fraction(fraction):
    """The one number over the other."""
    p, q = fraction
    return show_whole(p) + "/" + show_whole(q)


def read_pair(word):
    """The two numbers that are written as a fraction."""
    upper, sign, lower = word.partition("/")
    return (read_whole(upper), read_whole(lower))


def show_mark(mark):
    """The word or the number of the mark."""
    return mark if isinstance(mark, str) else show_whole(mark)


def read_mark(word):
    """The mark that is written so."""
    return word if word in ("half", "third") else read_whole(word)


def show_fan(fan):
    """The fractions in a row, and the marks in a row."""
    fractions, marks = fan
    upper = ["fan"] + [show_fraction(each) for each in fractions]
    lower = ["marks"] + [show_mark(mark) for mark in marks]
    return show_words(upper) + "\n" + show_words(lower)


def read_fan(text):
    """The fan that is written so."""
    upper, lower = read_rows(text, "fan", "marks")
    fan = (tuple([read_pair(word) for word in upper]), tuple([read_mark(word) for word in lower]))
    if not is_fan(fan):
        raise NoText("this writes no fan")
    return fan


def show_table(table):
    """The halves in a row, and the thirds in a row."""
    halves, thirds = [show_words([show_whole(place) for place in leads]) for leads in table]
    return "half " + halves + "\nthird " + thirds


def read_table(text):
    """The table that is written so."""
    upper, lower = read_rows(text, "half", "third")
    table = (tuple([read_whole(word) for word in upper]), tuple([read_whole(word) for word in lower]))
    if not is_table(table):
        raise NoText("this writes no table")
    return table


def show_glues(glues):
    """The gaps with their powers, blanks between; of none a stroke."""
    if not glues:
        return "-"
    return show_words([show_whole(gap) + "^" + show_whole(power) for gap, power in glues])
