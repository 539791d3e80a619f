"""Pairs of rows that are not of one class, with the error that is due."""

from turnedvalleys.errors import NotSame, Unlike
from turnedvalleys.rows import Row

EVERY = tuple(range(2, 41))

UNLIKE = (
    ("ends", Row((1, 2), ends=3), Row((1, 2), ends=2)),
    ("ends", Row((1, 2), ends=0), Row((1, 3), ends=1, rule=())),
    ("rule", Row((1, 2)), Row((1, 2), rule=())),
    ("rule", Row((1, 2), rule=EVERY), Row((1, 2))),
    ("rule", Row((1, 2), rule=(2, 3)), Row((1, 3), rule=(2,))),
    ("stones", Row((1, 2)), Row((1, 3))),
    ("stones", Row((1, 2), ends=3, rule=(2,)), Row((1, 2, 3), ends=3, rule=(2,))),
    ("stones", Row((2, 1, 3)), Row((2, 1))),
)

NOT_SAME = (
    (Row((1, 2)), Row((2, 1))),
    (Row((1, 2), ends=1), Row((2, 1), ends=1)),
    (Row((1, 2), ends=3, rule=()), Row((2, 1), ends=3, rule=())),
    (Row((1, 3, 2), ends=3), Row((3, 1, 2), ends=3)),
    (Row((1, 2, 3), ends=3, rule=(3,)), Row((2, 1, 3), ends=3, rule=(3,))),
)


def refuses_strangers(test, call, *more):
    """Asked with two rows and more, the call must raise the errors of rows of one class."""
    for word, one, two in UNLIKE:
        test.refused(Unlike, word, call, one, two, *more)
        test.refused(Unlike, word, call, two, one, *more)
    for one, two in NOT_SAME:
        test.refused(NotSame, 1, call, one, two, *more)
        test.refused(NotSame, 1, call, two, one, *more)


def refuses_strangers_among(test, call, many):
    """Asked with a tuple of so many rows, the call must raise the errors of rows of one class at each place."""
    for i in range(many):
        # A stranger that is the first one is told by the second one.
        told = max(i, 1)
        for word, one, two in UNLIKE:
            test.refused(Unlike, word, call, (one,) * i + (two,) + (one,) * (many - 1 - i))
        for one, two in NOT_SAME:
            test.refused(NotSame, told, call, (one,) * i + (two,) + (one,) * (many - 1 - i))
    if many > 2:
        _, one, two = UNLIKE[0]
        held, turned = NOT_SAME[2]
        far = Row((1, 3), ends=3, rule=())
        rest = (held,) * (many - 3)
        # Row after row: all of the second one comes before anything of the third one.
        test.refused(NotSame, 1, call, (held, turned, far) + rest)
        test.refused(NotSame, 1, call, (held, turned, one) + rest)
        test.refused(Unlike, "stones", call, (held, far, turned) + rest)
        test.refused(Unlike, "stones", call, (held, far, one) + rest)
        test.refused(Unlike, "ends", call, (held, two, far) + rest)
        test.refused(NotSame, many - 1, call, (held,) * (many - 1) + (turned,))
