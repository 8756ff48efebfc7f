"""Places: the tables of fans, and the fans of tables."""

from fanglue.errors import NoTable, TooMany
from fanglue.fans import MOST_PLACES, NOUGHT, TOP, gap_turning
from fanglue.turnings import HALF, NOTHING, THIRD, led, times
from fanglue.wholes import are_two_tuples, are_wholes, is_whole
from fanglue.words import word_of


class Walk:
    """A fan to walk in: a turning for each place, and what is crossed from one to the next.

    `stands` has each of these turnings with a number. `crossings` has the turnings just beyond with
    (glue, stand): the turning is the glue, a tuple (gap, power), times the turning that stands for its place.
    """

    def __init__(self, fan):
        self.stands = {}
        self.crossings = {}
        rim = [gap_turning(fan, gap) for gap in range(len(fan[0]))]
        self.stand_within(rim)
        for gap in range(len(rim)):
            self.stand_beyond(rim, gap, fan[1][gap])

    def stand_within(self, rim):
        """Give a number to each turning whose edge, and the triangle on its inner side, lie in the fan."""
        # Between two fractions alone there is no triangle.
        waiting = [rim[0]] if len(rim) > 2 else []
        while waiting:
            one = waiting.pop()
            if one not in self.stands:
                self.stands[one] = len(self.stands)
                waiting.append(times(one, THIRD))
                if one not in rim:
                    waiting.append(times(one, HALF))

    def stand_beyond(self, rim, gap, mark):
        """What lies beyond a gap is led back by the glue; beyond one marked third a place is left."""
        beyond = times(rim[gap], HALF)
        if mark == "third":
            self.stands[beyond] = len(self.stands)
            self.crossings[times(beyond, THIRD)] = ((gap, 1), beyond)
        else:
            there = mark if is_whole(mark) else gap
            self.crossings[beyond] = ((there, 1), rim[there])

    def settled(self, one):
        """(glues, stand) of a turning that stands for a place or lies just beyond: the row crossed has none or one."""
        if one in self.stands:
            return ((), one)
        crossed, stand = self.crossings[one]
        return ((crossed,), stand)

    def number_behind(self, one, letter):
        """The number of the place behind this one and the letter's turning."""
        return self.stands[self.settled(times(one, letter))[1]]


def table_of(fan):
    """The table of the fan's group."""
    walk = Walk(fan)
    halves = [walk.number_behind(one, HALF) for one in walk.stands]
    thirds = [walk.number_behind(one, THIRD) for one in walk.stands]
    return numbered(halves, thirds, walk.stands[walk.settled(NOTHING)[1]])


def met_from(halves, thirds, first):
    """The places in the order in which they are met; None, where a place isn't led on, is passed over."""
    met = [first]
    known = {first: True, None: True}
    at = 0
    while at < len(met):
        here = met[at]
        for behind in (halves[here], thirds[here]):
            if behind not in known:
                known[behind] = True
                met.append(behind)
        at += 1
    return met


def renumbered(halves, thirds, met):
    """The two rows of the places met, each with its place there as its number."""
    numbers = {place: number for number, place in enumerate(met)}
    numbers[None] = None
    return (tuple([numbers[halves[place]] for place in met]), tuple([numbers[thirds[place]] for place in met]))


def lead_back(halves, thirds):
    """Whether s twice, and r three times, lead from each place to itself."""
    for place in range(len(halves)):
        if halves[halves[place]] != place or thirds[thirds[thirds[place]]] != place:
            return False
    return True


def is_table(thing):
    """Whether any thing is a table."""
    if not are_two_tuples(thing):
        return False
    halves, thirds = thing
    many = len(halves)
    if not 1 <= many <= MOST_PLACES or not are_wholes(halves, many) or not are_wholes(thirds, many):
        return False
    if min(halves + thirds) < 0 or max(halves + thirds) >= many or not lead_back(halves, thirds):
        return False
    return renumbered(halves, thirds, met_from(halves, thirds, 0)) == thing


def numbered(halves, thirds, first):
    """The table of the places that s and r exchange so, numbered from this one on."""
    if not lead_back(halves, thirds):
        raise NoTable("s twice or r three times does not lead back")
    met = met_from(halves, thirds, first)
    if len(met) < len(halves):
        raise NoTable("not all places are met")
    return renumbered(halves, thirds, met)


def table_led(first, behind):
    """The table of all that is led to from the first thing: `behind` tells of each thing the two behind s and behind r.

    Refused with TooMany as soon as there are more than a table has.
    """
    met = [first]
    numbers = {first: 0}
    halves = []
    thirds = []
    while len(halves) < len(met):
        half, third = behind(met[len(halves)])
        for thing in (half, third):
            if thing not in numbers:
                numbers[thing] = len(met)
                met.append(thing)
        if len(met) > MOST_PLACES:
            raise TooMany("there are more than sixty places")
        halves.append(numbers[half])
        thirds.append(numbers[third])
    return (tuple(halves), tuple(thirds))


def triangles_laid(table):
    """The triangles of a fan, laid side by side from 1/0 and 0/1 on: the turnings of their edges, with the places."""
    halves, thirds = table
    laid = {}
    taken = {}
    # A place that r leads to itself has no triangle: the first one is then the one on the other side.
    waiting = [(NOTHING, 0)] if thirds[0] != 0 else [(HALF, halves[0])]
    while waiting:
        one, place = waiting.pop()
        if place in taken or thirds[place] == place:
            continue
        for corner in range(3):
            laid[one] = place
            taken[place] = True
            waiting.append((times(one, HALF), halves[place]))
            one = times(one, THIRD)
            place = thirds[place]
    return laid


def rim_of(laid):
    """The turnings of the edges with no triangle beyond them, in order from 1/0 on."""
    rim = [one for one in laid if led(one, TOP) == TOP and times(one, HALF) not in laid]
    while len(rim) < len(laid) // 3 + 2:
        # Round the corner: past the triangles that have it, to the edge behind the last one.
        one = times(rim[-1], THIRD)
        while times(one, HALF) in laid:
            one = times(times(one, HALF), THIRD)
        rim.append(one)
    return rim


def mark_of(table, places, place):
    """The mark of the gap whose edge is of this place, of those that are of these places."""
    halves, thirds = table
    beyond = halves[place]
    if beyond == place:
        return "half"
    if thirds[beyond] == beyond:
        return "third"
    return places.index(beyond)


def fan_of(table):
    """A fan whose table this is."""
    laid = triangles_laid(table)
    if not laid:
        return ((TOP, NOUGHT), ("half" if table[0][0] == 0 else "third", "third"))
    rim = rim_of(laid)
    places = [laid[one] for one in rim]
    return (tuple([led(one, TOP) for one in rim]), tuple([mark_of(table, places, place) for place in places]))


def place_behind(table, place, letter):
    """The place to which the letter leads; None, where it doesn't lead on."""
    halves, thirds = table
    if letter == "s":
        return halves[place]
    behind = thirds[place]
    if letter == "q" and behind is not None:
        return thirds[behind]
    return behind


def place_along(table, word, first=0):
    """The place to which the letters lead from the first one; None, where a place isn't led on."""
    place = first
    for letter in word:
        if place is None:
            return None
        place = place_behind(table, place, letter)
    return place


def word_to(table, place):
    """The first short word that leads from 0 to the place."""
    # The words are met by length, and of one length as texts are compared; the first one to a place is always short.
    words = {0: ""}
    met = [0]
    while place not in words:
        here = met.pop(0)
        for letter in "qrs":
            behind = place_behind(table, here, letter)
            if behind not in words:
                words[behind] = words[here] + letter
                met.append(behind)
    return words[place]


def place_of(table, one):
    """The place to which the turning leads from 0."""
    return place_along(table, word_of(one))
