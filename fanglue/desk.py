"""A desk that keeps tables by names, told and asked by texts."""

from fanglue.ends import ends, holes
from fanglue.errors import Full, NoName, NoRow, NoText, Open
from fanglue.folding import folded
from fanglue.places import fan_of, place_of, table_of
from fanglue.rests import KINDS, MOST_NUMBER, by_rests, judged
from fanglue.several import alike_at, core, is_within, meet, turned
from fanglue.texts import read_fan, read_table, read_turning, read_whole, show_fan, show_table, show_turning
from fanglue.turnings import turning

MOST_NAMES = 8
MOST_LETTERS = 8
MOST_TURNINGS = 8
LETTERS = "abcdefghijklmnopqrstuvwxyz"

# What the words of each row behind its first one are: a name told anew, a name by which something stands, a kind of
# rests, or a number.
ROWS = {
    "fan": ("new",), "table": ("new",), "fold": ("new",),
    "rests": ("new", "kind", "number"), "meet": ("new", "name", "name"), "core": ("new", "name"),
    "turn": ("new", "name", "number", "number", "number", "number"),
    "drop": ("name",), "show": ("name",), "fanof": ("name",),
    "place": ("name", "number", "number", "number", "number"),
    "ends": ("name",), "holes": ("name",), "judge": ("name",),
    "within": ("name", "name"), "same": ("name", "name"), "alike": ("name", "name"),
}
ROWS_WITH_MORE = ("fan", "table", "fold")


def is_name(word):
    """Whether the word is a name."""
    return 1 <= len(word) <= MOST_LETTERS and all([letter in LETTERS for letter in word])


def is_due_word(word, due):
    """Whether the word may stand where such a one is due."""
    if due == "kind":
        return word in KINDS
    # Whether a number is written as it should be is asked later; here it is to be a word at all.
    return word != "" if due == "number" else is_name(word)


def row_read(text):
    """(words, behind): the words of the row, and what stands behind its line feed."""
    if not isinstance(text, str):
        raise NoRow("this is no text")
    row, feed, behind = text.partition("\n")
    words = row.split(" ")
    if words[0] not in ROWS or (words[0] in ROWS_WITH_MORE) != (feed == "\n"):
        raise NoRow("there is no such row")
    due = ROWS[words[0]]
    if len(words) - 1 != len(due) or not all([is_due_word(word, each) for word, each in zip(words[1:], due)]):
        raise NoRow("the words behind the first one are not those of the row")
    return (words, behind)


def turning_read(words):
    """The turning made of four numbers as they are written."""
    a, b, c, d = [read_whole(word) for word in words]
    return turning(a, b, c, d)


def number_read(word):
    """The number of rests that is written so."""
    number = read_whole(word)
    if not 1 <= number <= MOST_NUMBER:
        raise NoText("the number is not from 1 to 24")
    return number


def turnings_read(text):
    """The turnings that are written each in a row; none, where nothing is written."""
    rows = text.split("\n") if text != "" else []
    if len(rows) > MOST_TURNINGS:
        raise NoText("there are more than eight turnings")
    return [read_turning(row) for row in rows]


def closed_table(turnings):
    """The table of the group that the turnings tell."""
    kind, table = folded(turnings)
    if kind == "open":
        raise Open("the group never closes")
    return table


def table_told(word, tables, others, behind):
    """The table that a row tells: of its tables, its other words, and what stands behind."""
    if word == "fan":
        return table_of(read_fan(behind))
    if word == "table":
        return read_table(behind)
    if word == "fold":
        return closed_table(turnings_read(behind))
    if word == "rests":
        return by_rests(others[0], number_read(others[1]))
    if word == "meet":
        return meet(tables[0], tables[1])
    if word == "turn":
        return turned(tables[0], turning_read(others))
    return core(tables[0])


def yes_or_no(truth):
    """The truth as a text."""
    return "yes" if truth else "no"


def show_judged(table):
    """How the table is judged, as a text."""
    kind, told = judged(table)
    return "rests " + str(told) if kind == "rests" else "leaver " + show_turning(told)


def show_alike(one, other):
    """The place at which the tables are alike, or no."""
    place = alike_at(one, other)
    return "no" if place is None else str(place)


def answer_of_one(word, table, others):
    """What a row asks of one table."""
    if word == "show":
        return show_table(table)
    if word == "fanof":
        return show_fan(fan_of(table))
    if word == "place":
        return str(place_of(table, turning_read(others)))
    if word == "ends":
        return " ".join([str(width) for width, place in ends(table)])
    if word == "holes":
        return str(holes(table))
    return show_judged(table)


def answer_of_two(word, one, other):
    """What a row asks of two tables."""
    if word == "within":
        return yes_or_no(is_within(one, other))
    if word == "same":
        return yes_or_no(one == other)
    return show_alike(one, other)


class Desk:
    """Tables by their names."""

    def __init__(self):
        self.tables = {}

    def say(self, text):
        """Do what the text tells, or answer what it asks."""
        words, behind = row_read(text)
        due = ROWS[words[0]]
        tables = [self.table_by(word) for word, each in zip(words[1:], due) if each == "name"]
        others = [word for word, each in zip(words[1:], due) if each in ("kind", "number")]
        if due[0] == "new":
            self.keep(words[1], table_told(words[0], tables, others, behind))
            return "ok"
        if words[0] == "drop":
            self.tables.pop(words[1])
            return "ok"
        if len(tables) == 2:
            return answer_of_two(words[0], tables[0], tables[1])
        return answer_of_one(words[0], tables[0], others)

    def table_by(self, name):
        """The table that stands by the name."""
        if name not in self.tables:
            raise NoName("nothing stands by this name")
        return self.tables[name]

    def keep(self, name, table):
        """Put the table in the place of what stood by the name."""
        if name not in self.tables and len(self.tables) == MOST_NAMES:
            raise Full("there is no room for a ninth name")
        self.tables[name] = table
