"""Rings that are opened to rows."""

from turnedvalleys.errors import BadPlace
from turnedvalleys.rings import from_place
from turnedvalleys.rows import Row


def opened(ring, place):
    """The Row, open at both ends, of the stones from a place onward round."""
    if not 0 <= place < len(ring.stones):
        raise BadPlace(place)
    return Row(from_place(ring.stones, place), rule=ring.rule)
