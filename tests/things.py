"""What the tests of several parts hand in, and how they look at what is told."""

import random


def whole_of(figures, seed):
    """A number above 0 of just so many figures, the same in every run."""
    return random.Random(seed).randrange(10 ** (figures - 1), 10 ** figures)


def nested(inner, depth):
    """The thing within lists and tuples by turns."""
    for level in range(depth):
        inner = [inner] if level % 2 else (inner,)
    return inner


# None of these is a fraction or a turning.
OTHER_THINGS = [
    None, True, False, 0, 1, -1, 7, 10 ** 299, -(10 ** 299),
    "", "a", "1/0", "1 0 0 1", "10", "1001", "(1, 0)",
    [], (), [[]], ((),), [()], ([],), ((), ()), ([], []), [[], []], ((), (), (), ()),
    (None,), (None, None), (None,) * 4, [None, None],
    ("1", "0"), ("1", "0", "0", "1"), ("", ""), ("a", "b", "c", "d"),
    ((1, 0),), ((1, 0), (0, 1)), [(1, 0), (0, 1)], ([1, 0], [0, 1]), ((1,), (0,)),
    ((1, 0, 0, 1),), ((1,), (0,), (0,), (1,)), ([1], [0], [0], [1]), ([1, 0, 0, 1],),
    ((1, 0), (0, 1), (1, 0), (0, 1)), (1, (0, 0, 1)), (1, 0, (0, 1)), ((1, 0, 0), 1),
    [1, 0], [0, 1], [1, 0, 0, 1], [1, 2], [0, -1, 1, 0],
    (1,), (0,), (1, 0, 0), (1, 1, 1), (1, 0, 0, 1, 0), (1, 0, 0, 1, 1), (1, 0, 0, 0, 1),
    nested(1, 6), nested((1, 0), 5), nested((1, 0, 0, 1), 5), nested([], 6), nested("s", 6),
    tuple(range(300)), list(range(300)), tuple([1] * 300), ("x",) * 300, [None] * 300,
]

# Each of these stands where a number is due, and is none.
NO_NUMBERS = [True, False, None, "", "0", "1", "-1", "s", (), (1,), (0,), [], [1], [0], ((0, 1),)]


def plain(thing):
    """The thing with the kind of each part, so that 1 and True, (1,) and [1] differ."""
    if isinstance(thing, (tuple, list)):
        return (type(thing).__name__, [plain(part) for part in thing])
    return (type(thing).__name__, thing)


class Exact:
    """Answers are held to the kinds told, too: True is not 1, a list no tuple."""

    def assert_told(self, told, due):
        self.assertEqual(plain(told), plain(due))

    def assert_refused(self, error, deed, *handed):
        with self.assertRaises(error) as caught:
            deed(*handed)
        self.assertIs(type(caught.exception), error)

    def assert_unchanged(self, deed, *handed):
        before = [plain(thing) for thing in handed]
        first = plain(deed(*handed))
        self.assertEqual([plain(thing) for thing in handed], before)
        self.assertEqual(plain(deed(*handed)), first)
