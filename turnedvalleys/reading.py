"""Reading the words of texts.

A reader is handed all words and the index of the one that it reads. It raises BadText with this index if the word is
bad, and also if it is missing: then the index is how many words there are.
"""

from turnedvalleys.errors import BadText

DIGITS = "0123456789"


def words_of(text):
    """The words of a text, with an empty one beside each space that does not separate two."""
    return text.split(" ")


def number_in(word):
    """The number that a number word tells, or None if the word is none."""
    if not 1 <= len(word) <= 15 or not all([sign in DIGITS for sign in word]):
        return None
    if word[0] == "0" and word != "0":
        return None
    return int(word)


def stone_in(word):
    """The number that a stone word tells, or None if the word is none."""
    if not word.startswith("-"):
        return number_in(word)
    number = number_in(word[1:])
    return None if number is None or number == 0 else -number


def lengths_in(word):
    """The lengths that a rule word tells, or None if the word tells none."""
    lengths = []
    for part in word.split(","):
        length = number_in(part)
        if length is None or not 2 <= length <= 40 or (len(lengths) > 0 and length <= lengths[-1]):
            return None
        lengths.append(length)
    return tuple(lengths)


def word_at(words, i):
    """The word with the index i, whatever it is."""
    if i >= len(words):
        raise BadText(i)
    return words[i]


def read_known(words, i, known):
    """The word with the index i, which must be one of those known."""
    word = word_at(words, i)
    if word not in known:
        raise BadText(i)
    return word


def read_end(words, i):
    """Nothing: the words must end ahead of the index i."""
    if i < len(words):
        raise BadText(i)


def read_number(words, i):
    """The number of a number word."""
    number = number_in(word_at(words, i))
    if number is None:
        raise BadText(i)
    return number


def read_stone(words, i):
    """The number of a stone word."""
    number = stone_in(word_at(words, i))
    if number is None:
        raise BadText(i)
    return number


def read_stones(words, first, fewest, most, *, different=False):
    """The numbers of the stone words from the index first to the end, as many as are let, and different ones if so."""
    found = []
    for i in range(first, len(words)):
        x = read_stone(words, i)
        if len(found) == most or (different and x in found):
            raise BadText(i)
        found.append(x)
    if len(found) < fewest:
        raise BadText(len(words))
    return tuple(found)


def read_ends(words, i):
    """The ends."""
    return int(read_known(words, i, ("0", "1", "2", "3")))


def read_rule(words, i):
    """The rule."""
    word = word_at(words, i)
    if word == "all":
        return None
    if word == "none":
        return ()
    lengths = lengths_in(word)
    if lengths is None:
        raise BadText(i)
    return lengths
