"""The texts of like rows, rings and papers."""

from turnedvalleys.likerows import LikeRow
from turnedvalleys.reading import read_end, read_ends, read_known, read_rule, read_stone, read_stones, words_of
from turnedvalleys.rings import Ring
from turnedvalleys.writing import number_words, rule_word, text_of


def like_text(row):
    """The text of a like row."""
    return text_of(["like", str(row.ends)] + number_words(row.stones))


def like_from(text):
    """The LikeRow of a text."""
    words = words_of(text)
    read_known(words, 0, ("like",))
    ends = read_ends(words, 1)
    return LikeRow(read_stones(words, 2, 1, 24), ends=ends)


def ring_text(ring):
    """The text of a ring."""
    return text_of(["ring", rule_word(ring.rule)] + number_words(ring.stones))


def ring_from(text):
    """The Ring of a text."""
    words = words_of(text)
    read_known(words, 0, ("ring",))
    rule = read_rule(words, 1)
    return Ring(read_stones(words, 2, 2, 40, different=True), rule=rule)


def paper_text(paper):
    """The text of a paper."""
    return text_of([paper[0]] + number_words(paper[1:]))


def paper_from(text):
    """The paper of a text."""
    words = words_of(text)
    many = 3 if read_known(words, 0, ("lot", "order", "sense")) == "order" else 2
    numbers = tuple([read_stone(words, i) for i in range(1, many)])
    read_end(words, many)
    return (words[0],) + numbers
