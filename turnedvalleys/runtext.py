"""The texts of runs."""

from turnedvalleys.errors import BadRun
from turnedvalleys.forms import fits
from turnedvalleys.reading import read_stones, words_of
from turnedvalleys.runs import check_length
from turnedvalleys.writing import number_words, text_of


def run_text(run):
    """The text of a run."""
    check_length(run)
    for i, x in enumerate(run):
        if not fits(x):
            raise BadRun(i)
    return text_of(number_words(run))


def run_from(text):
    """The numbers of a run's text."""
    if text == "":
        return ()
    return read_stones(words_of(text), 0, 1, 10000)
