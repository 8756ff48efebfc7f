"""Whole numbers, and tuples of two tuples, told from other things."""


def is_whole(thing):
    """Whether any thing is a whole number."""
    # Python counts True and False among its ints; here they are none.
    return isinstance(thing, int) and not isinstance(thing, bool)


def are_wholes(thing, many):
    """Whether any thing is a tuple of so many whole numbers."""
    if not isinstance(thing, tuple) or len(thing) != many:
        return False
    return all([is_whole(each) for each in thing])


def are_two_tuples(thing):
    """Whether any thing is a tuple of two tuples."""
    if not isinstance(thing, tuple) or len(thing) != 2:
        return False
    return isinstance(thing[0], tuple) and isinstance(thing[1], tuple)
