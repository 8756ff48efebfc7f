"""Groups told by the rests that turnings leave."""

from fanglue.ends import ends
from fanglue.errors import TooMany
from fanglue.fractions import common_part
from fanglue.places import table_led
from fanglue.turnings import HALF, NOTHING, THIRD, contrary, times

KINDS = ("plain", "upper", "first")
MOST_NUMBER = 24


def least_multiple(rows, factors, number):
    """The least of the multiples of all numbers in the rows, by their rests."""
    return min([tuple([(factor * x % number, factor * y % number) for x, y in rows]) for factor in factors])


def rests_of(one, number):
    """The rests of the four numbers, the same for all turnings that are one by the rests."""
    a, b, c, d = one
    return least_multiple(((a, b), (c, d)), (1, -1), number)


def is_nothing_by(one, number):
    """Whether the turning is nothing by the rests of the number."""
    return rests_of(one, number) == rests_of(NOTHING, number)


def rows_behind(rows):
    """The rows times s, and times r."""
    return [tuple([(y, -x) for x, y in rows]), tuple([(y, -x - y) for x, y in rows])]


def by_rests(kind, number):
    """The table of the group of this kind by the rests of the number."""
    factors = (1, -1)
    if kind == "upper":
        factors = [each for each in range(number) if common_part(each, number) == 1]
    # Two turnings are of one place where both rows, or the lower ones alone, leave the same rests but for a factor.
    rows = ((1, 0), (0, 1)) if kind == "plain" else ((0, 1),)

    def behind(here):
        return [least_multiple(there, factors, number) for there in rows_behind(here)]

    return table_led(least_multiple(rows, factors, number), behind)


def number_of(table):
    """The least number that all widths of the ends divide."""
    number = 1
    for width, place in ends(table):
        number = number * width // common_part(number, width)
    return number


def leaver(table, number):
    """A turning that is nothing by the rests and leads from 0 to another place; None, where there is none."""
    met = [(NOTHING, 0)]
    known = {rests_of(NOTHING, number): (NOTHING, 0)}
    at = 0
    while at < len(met):
        one, place = met[at]
        for letter, leads in ((HALF, table[0]), (THIRD, table[1])):
            behind = (times(one, letter), leads[place])
            rests = rests_of(behind[0], number)
            if rests not in known:
                known[rests] = behind
                met.append(behind)
            elif known[rests][1] != behind[1]:
                # One by the rests, and of two places: the one and the other's contrary lead away from 0.
                return times(behind[0], contrary(known[rests][0]))
        at += 1
    return None


def judged(table):
    """("rests", N), or ("leaver", turning), N being the table's number."""
    number = number_of(table)
    if number > MOST_NUMBER:
        raise TooMany("the number is above 24")
    found = leaver(table, number)
    if found is None:
        return ("rests", number)
    return ("leaver", found)
