"""Words of the half turn s, the third turn r and r's contrary q."""

from fanglue.errors import TooLong
from fanglue.turnings import HALF, NOTHING, THIRD, contrary, times

MOST_LETTERS = 2000
# What two letters beside one another come to where a short word does not have them so.
PAIRS = {"ss": "", "rr": "q", "qq": "r", "rq": "", "qr": ""}
CONTRARIES = {"s": "s", "r": "q", "q": "r"}


def is_word(thing):
    """Whether any thing is a word."""
    if not isinstance(thing, str) or len(thing) > MOST_LETTERS:
        return False
    return all([letter in CONTRARIES for letter in thing])


def is_short(word):
    """Whether the word is short."""
    return not any([word[at:at + 2] in PAIRS for at in range(len(word) - 1)])


def letter_turning(letter):
    """The turning of one letter."""
    if letter == "s":
        return HALF
    if letter == "r":
        return THIRD
    return contrary(THIRD)


def turning_of(word):
    """The product of the letters, in order."""
    one = NOTHING
    for letter in word:
        one = times(one, letter_turning(letter))
    return one


def differ_in_sign(p, q):
    """Whether one number is below and the other one above 0."""
    return p < 0 < q or q < 0 < p


def first_letter(one):
    """The first letter of the short word, of a turning other than nothing."""
    a, b, c, d = one
    # Behind s the edge lies below 0, behind r between 0 and 1, behind q from 1 on; that of s alone is from 0/1 to 1/0.
    upper = abs(a) + abs(b)
    lower = abs(c) + abs(d)
    if upper == lower or differ_in_sign(a, c) or differ_in_sign(b, d):
        return "s"
    return "r" if upper < lower else "q"


def without(letter, one):
    """The letter's contrary times the turning; perhaps with all signs turned."""
    # Sums alone: numbers of many figures are not multiplied at each letter.
    a, b, c, d = one
    if letter == "s":
        return (-c, -d, a, b)
    if letter == "r":
        return (a - c, b - d, a, b)
    return (-c, -d, a - c, b - d)


def word_within(one, most):
    """The short word of the turning, where it has at most so many letters."""
    letters = []
    left = one
    while left[1] != 0 or left[2] != 0:
        if len(letters) == most:
            raise TooLong("the short word has more letters")
        letters.append(first_letter(left))
        left = without(letters[-1], left)
    return "".join(letters)


def word_of(one):
    """The short word of the turning."""
    return word_within(one, MOST_LETTERS)


def shortened(word):
    """The short word with the same turning."""
    letters = []
    for letter in word:
        pair = letters[-1] + letter if letters else letter
        if pair in PAIRS:
            letters.pop()
            letters.extend(list(PAIRS[pair]))
        else:
            letters.append(letter)
    return "".join(letters)


def word_contrary(word):
    """The word of the contrary turning: from behind, r and q exchanged."""
    return "".join([CONTRARIES[letter] for letter in word[::-1]])
