"""Several groups: met, held within one another, turned and told alike; and the core of one."""

from fanglue.places import numbered, place_of, table_led


def pair_behind(one, other, pair):
    """The pairs of places to which s, and r, lead from a pair, the first of the one table, the second of the other."""
    here, there = pair
    return ((one[0][here], other[0][there]), (one[1][here], other[1][there]))


def meet(one, other):
    """The table of all turnings that are in both groups."""
    return table_led((0, 0), lambda pair: pair_behind(one, other, pair))


def is_within(one, other):
    """Whether the first group lies within the second one."""
    images = {0: 0}
    # Places are numbered as they are met, so each has its image by the time that its turn comes.
    for place in range(len(one[0])):
        for leads, others in zip(one, other):
            image = others[images[place]]
            if images.setdefault(leads[place], image) != image:
                return False
    return True


def turned(table, one):
    """The table turned by the turning."""
    return numbered(table[0], table[1], place_of(table, one))


def alike_at(one, other):
    """The least place of the first table from which numbered it is the second one, or None."""
    for place in range(len(one[0])):
        if numbered(one[0], one[1], place) == other:
            return place
    return None


def spread_behind(table, spread):
    """Where all places lie behind s, and behind r, when they lie so."""
    halves, thirds = table
    return (tuple([halves[place] for place in spread]), tuple([thirds[place] for place in spread]))


def core(table):
    """The table of the greatest group within that is the same however it is turned."""
    # Of it are just the turnings that lead every place to itself.
    return table_led(tuple(range(len(table[0]))), lambda spread: spread_behind(table, spread))
