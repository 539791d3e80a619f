"""Runs of the fewest turns."""

from turnedvalleys.forests import free_heads
from turnedvalleys.kin import check_class
from turnedvalleys.senses import sense_of


def unlike_heads(one, two):
    """The free heads that have different senses in two rows of one class, ascending."""
    check_class((one, two))
    return tuple([x for x in free_heads(one) if sense_of(one, x) != sense_of(two, x)])


def fewest(one, two):
    """The number of turns that lead from one to two, if no fewer do."""
    return len(unlike_heads(one, two))


def run_to(one, two):
    """The run of the unlike heads, each once, ascending."""
    return unlike_heads(one, two)
