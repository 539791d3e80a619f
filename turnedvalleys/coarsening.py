"""Like rows that tell stones apart only by cuts."""

from turnedvalleys.errors import BadCuts
from turnedvalleys.likerows import LikeRow


def check_cuts(cuts):
    """Raise BadCuts unless cuts ascend strictly."""
    for i in range(1, len(cuts)):
        if cuts[i] <= cuts[i - 1]:
            raise BadCuts(i)


def coarse(row, cuts):
    """The LikeRow in which each stone is the number of cuts that are not greater than it."""
    check_cuts(cuts)
    # A LikeRow refuses more than 24 stones by itself.
    return LikeRow(tuple([len([cut for cut in cuts if cut <= x]) for x in row]), ends=row.ends)
