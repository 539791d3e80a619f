"""The texts of rows."""

from turnedvalleys.reading import read_ends, read_known, read_rule, read_stones, words_of
from turnedvalleys.rows import Row
from turnedvalleys.writing import number_words, rule_word, text_of


def row_text(row):
    """The text of a row."""
    return text_of(["row", str(row.ends), rule_word(row.rule)] + number_words(row.stones))


def row_from(text):
    """The Row of a text."""
    words = words_of(text)
    read_known(words, 0, ("row",))
    ends = read_ends(words, 1)
    rule = read_rule(words, 2)
    return Row(read_stones(words, 3, 1, 40, different=True), ends=ends, rule=rule)
