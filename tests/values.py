"""Values of any kind, built from tuples, texts, numbers and None, for judges."""


def nested(depth):
    """A tuple in a tuple, so many deep."""
    value = ()
    for _ in range(depth):
        value = (value,)
    return value


def many_parts():
    """About 40000 parts, most of them shared."""
    part = tuple(range(199))
    return (part,) * 199


ANY = (None, "", "open", "wall", "2", 0, 1, 2, -1, 10 ** 30, (None,), ("",), ((),), ((2,),), (("2",),), nested(99),
       (2, None), (2, "3"), (2, (3,)), (None, None, None), ("x", "p", "s"), ((), (), ()), many_parts(),
       (0,) * 39999, (None,) * 39999)
