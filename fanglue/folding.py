"""Groups told by turnings, folded to tables that are closed or open."""

from fanglue.places import met_from, place_along, renumbered
from fanglue.words import word_within

MOST_LETTERS = 200


def lead_as_both(leads, low, high):
    """Lead the lower place on as either is; told are the two places behind, where both are led on."""
    if leads[low] is None:
        leads[low] = leads[high]
        return []
    return [] if leads[high] is None else [(leads[low], leads[high])]


class Folder:
    """Places that are led on as the words so far ask for, and made one where they must be."""

    def __init__(self):
        self.halves = []
        self.thirds = []
        # Each place with one that it was made one with: itself, where it still stands.
        self.ones = []
        self.new_place()

    def new_place(self):
        """A place that isn't led on yet."""
        self.halves.append(None)
        self.thirds.append(None)
        self.ones.append(len(self.ones))
        return len(self.ones) - 1

    def standing(self, place):
        """The place that stands for this one."""
        while self.ones[place] != place:
            self.ones[place] = self.ones[self.ones[place]]
            place = self.ones[place]
        return place

    def behind_half(self, place):
        """The place to which s leads."""
        if self.halves[place] is None:
            other = self.new_place()
            self.halves[place] = other
            self.halves[other] = place
        return self.standing(self.halves[place])

    def behind_third(self, place):
        """The place to which r leads."""
        if self.thirds[place] is None:
            second = self.new_place()
            last = self.new_place()
            self.thirds[place] = second
            self.thirds[second] = last
            self.thirds[last] = place
        return self.standing(self.thirds[place])

    def make_one(self, one, other):
        """Make one place of two, and so of those to which s and r lead from them."""
        waiting = [(one, other)]
        while waiting:
            one, other = waiting.pop()
            low, high = sorted([self.standing(one), self.standing(other)])
            if low < high:
                self.ones[high] = low
                waiting.extend(lead_as_both(self.halves, low, high))
                waiting.extend(lead_as_both(self.thirds, low, high))

    def lead_round(self, word):
        """Have the word lead from 0 to 0."""
        place = 0
        for letter in word.replace("q", "rr"):
            place = self.behind_half(place) if letter == "s" else self.behind_third(place)
        self.make_one(place, 0)

    def table(self):
        """The table of the places that stand, open or closed."""
        halves = [None if place is None else self.standing(place) for place in self.halves]
        thirds = [None if place is None else self.standing(place) for place in self.thirds]
        return renumbered(halves, thirds, met_from(halves, thirds, 0))


def folded(turnings):
    """("closed", table) or ("open", table) of the group that the turnings tell."""
    words = [word_within(one, MOST_LETTERS) for one in turnings]
    folder = Folder()
    # Nothing is to be cut off for the least table: all in it is passed by some short word, and such a one never
    # leaves a place, or three that r leads round, by the way that it came.
    for word in words:
        folder.lead_round(word)
    table = folder.table()
    return ("open" if None in table[0] + table[1] else "closed", table)


def led_to(table, word):
    """The place to which the word leads from 0, letter by letter; None, where a place isn't led on."""
    return place_along(table, word)


def open_place(table):
    """The least place of an open table that isn't led on, with the letter."""
    halves, thirds = table
    place = 0
    while halves[place] is not None and thirds[place] is not None:
        place += 1
    return (place, "s" if halves[place] is None else "r")
