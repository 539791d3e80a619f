"""How many rows of a class begin with given stones."""

from turnedvalleys.errors import BadPrefix
from turnedvalleys.wishes import count_kept


def check_prefix(row, prefix):
    """Raise BadPrefix unless prefix are different stones of row."""
    for i, x in enumerate(prefix):
        if x not in row or x in prefix[:i]:
            raise BadPrefix(i)


def begins(row, prefix):
    """The number of rows of the class whose first stones are those of prefix."""
    check_prefix(row, prefix)
    wishes = list(zip(prefix, prefix[1:]))
    if len(prefix) > 0:
        wishes += [(prefix[-1], x) for x in row if x not in prefix]
    return count_kept(row, wishes)
