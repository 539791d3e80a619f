"""Pairs of rows that are not of one class, with the error that is due."""

from turnedvalleys.errors import NotSame, Unlike
from turnedvalleys.rows import Row

EVERY = tuple(range(2, 41))

UNLIKE = (
    ("ends", Row((1, 2), ends=3), Row((1, 2), ends=2)),
    ("ends", Row((1, 2), ends=0), Row((1, 3), ends=1, rule=())),
    ("rule", Row((1, 2)), Row((1, 2), rule=())),
    ("rule", Row((1, 2), rule=EVERY), Row((1, 2))),
    ("rule", Row((1, 2), rule=(2, 3)), Row((1, 3), rule=(2,))),
    ("stones", Row((1, 2)), Row((1, 3))),
    ("stones", Row((1, 2), ends=3, rule=(2,)), Row((1, 2, 3), ends=3, rule=(2,))),
    ("stones", Row((2, 1, 3)), Row((2, 1))),
)

NOT_SAME = (
    (Row((1, 2)), Row((2, 1))),
    (Row((1, 2), ends=1), Row((2, 1), ends=1)),
    (Row((1, 2), ends=3, rule=()), Row((2, 1), ends=3, rule=())),
    (Row((1, 3, 2), ends=3), Row((3, 1, 2), ends=3)),
    (Row((1, 2, 3), ends=3, rule=(3,)), Row((2, 1, 3), ends=3, rule=(3,))),
)


def refuses_strangers(test, call, *more):
    """Asked with two rows and more, the call must raise the errors of rows of one class."""
    for word, one, two in UNLIKE:
        test.refused(Unlike, word, call, one, two, *more)
        test.refused(Unlike, word, call, two, one, *more)
    for one, two in NOT_SAME:
        test.refused(NotSame, 1, call, one, two, *more)
        test.refused(NotSame, 1, call, two, one, *more)
