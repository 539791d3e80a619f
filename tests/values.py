"""Values of any kind, built from tuples, texts, numbers and None, for judges."""


def nested(depth):
    """A tuple in a tuple, so many deep."""
    value = ()
    for _ in range(depth):
        value = (value,)
    return value


def many_parts():
    """About 40000 parts, most of them shared."""
    part = tuple(range(199))
    return (part,) * 199


ANY = (None, "", "open", "wall", "2", 0, 1, 2, -1, 10 ** 30, (None,), ("",), ((),), ((2,),), (("2",),), nested(99),
       (2, None), (2, "3"), (2, (3,)), (None, None, None), ("x", "p", "s"), ((), (), ()), many_parts(),
       (0,) * 39999, (None,) * 39999)

# What is no pair of two different stones of the row of the examples.
NO_WISHES = ANY + ((), (1,), (1, 2, 3), (1, 1), (9, 9), (0, 1), (1, 0), (1, 10), (10 ** 30, 1), (-1, -2), ("1", 2),
                   (1, "2"), (1, None), (None, 1), ((1,), (2,)), ((1, 2),), ((1, 2), (2, 1)), "ab", (1, (2,)), ("", ""))

# What is no kind for the row of the examples, and none for any row of numbers below 10.
NO_KINDS = ANY + ((), ("fall",), ("Falls",), ("wrongs",), ("",), ("place",), ("ahead",), ("falls", 1),
                  ("wrong", 1), ("falls", "falls"), ("wrong", None), ("falls", 1, 2), ("wrong", 1, 2), (("falls",),),
                  (("wrong",), 1), ("place", 0), ("place", 10), ("place", 10 ** 30), ("place", -1), ("place", "1"),
                  ("place", None), ("place", (1,)), ("place", ()), ("place", 1, 2), ("place", 1, 1), ("place", 1, 2, 3),
                  ("places", 1), (1, "place"), (None, 1), (("place",), 1), ("ahead", 1), ("ahead", (1, 2)),
                  ("ahead", 1, 1), ("ahead", 9, 9), ("ahead", 0, 1), ("ahead", 1, 0), ("ahead", 0, 0),
                  ("ahead", 10, 11), ("ahead", 1, "2"), ("ahead", "1", 2), ("ahead", 1, None), ("ahead", None, 1),
                  ("ahead", (1,), 2), ("ahead", 1, (2,)), ("ahead", 1, 2, 3), ("ahead", 1, 2, None),
                  ("behind", 1, 2), (1, 2, "ahead"), ("falls", "wrong"), "wrong", "place", "falls")
