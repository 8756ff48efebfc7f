"""Papers looked at, whoever wrote them."""

from fanglue.errors import NoPaper, TooLong
from fanglue.fans import is_fan, many_places
from fanglue.glues import glue, is_short_row, row_turning
from fanglue.places import is_table, place_along
from fanglue.rests import MOST_NUMBER, is_nothing_by
from fanglue.turnings import is_turning
from fanglue.wholes import are_wholes, is_whole
from fanglue.words import is_word, word_of

MOST_GLUES = 100
MOST_POWER = 100


def short_word(one):
    """The short word of the turning; None, where it is too long."""
    try:
        return word_of(one)
    except TooLong:
        return None


def is_due_glue(fan, thing):
    """Whether any thing is a tuple (gap, power) of a gap of the fan and a power within bounds."""
    if not are_wholes(thing, 2):
        return False
    gap, power = thing
    return 0 <= gap < len(fan[0]) and abs(power) <= MOST_POWER


def is_due_row(fan, thing):
    """Whether any thing is a short row of glues of the fan, within bounds."""
    if not isinstance(thing, tuple) or len(thing) > MOST_GLUES:
        return False
    return all([is_due_glue(fan, each) for each in thing]) and is_short_row(fan, thing)


def failing_in(fan, one, glues):
    """The first asking that fails of a paper that a turning is of the fan's group; None, where all hold."""
    if not is_fan(fan):
        return 2
    if not is_turning(one):
        return 3
    if not is_due_row(fan, glues):
        return 4
    return None if row_turning(fan, glues) == one else 5


def failing_out(table, word, place):
    """Likewise, of a paper that a word leads to another place than 0."""
    if not is_table(table):
        return 2
    if not is_word(word):
        return 3
    if not is_whole(place) or place == 0:
        return 4
    return None if place_along(table, word) == place else 4


def leads_back(table, one):
    """Whether the turning has a short word within bounds that leads from 0 to 0."""
    word = short_word(one)
    return word is not None and place_along(table, word) == 0


def failing_same(fan, table):
    """Likewise, of a paper that the table is the fan's."""
    if not is_fan(fan):
        return 2
    if not is_table(table):
        return 3
    if many_places(fan) != len(table[0]):
        return 4
    return None if all([leads_back(table, glue(fan, gap)) for gap in range(len(fan[0]))]) else 4


def failing_leaver(table, number, one):
    """Likewise, of a paper that a turning is nothing by the rests and is not of the table's group."""
    if not is_table(table):
        return 2
    if not is_whole(number) or not 1 <= number <= MOST_NUMBER:
        return 3
    if not is_turning(one) or not is_nothing_by(one, number):
        return 4
    word = short_word(one)
    if word is None:
        return 4
    return 5 if place_along(table, word) == 0 else None


FORMS = {"in": failing_in, "out": failing_out, "leaver": failing_leaver}


def first_failing(thing):
    """The number of the first asking that fails, of any thing; None, where all hold."""
    if not isinstance(thing, tuple) or len(thing) not in (3, 4) or not isinstance(thing[0], str):
        return 1
    if len(thing) == 3:
        return failing_same(thing[1], thing[2]) if thing[0] == "same" else 1
    if thing[0] not in FORMS:
        return 1
    failing = FORMS[thing[0]]
    return failing(thing[1], thing[2], thing[3])


def looked(thing):
    """None, where the paper holds."""
    failing = first_failing(thing)
    if failing is not None:
        raise NoPaper(failing)
