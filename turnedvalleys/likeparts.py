"""The tops of like rows, and the parts between them."""


def tops_of(stones):
    """The places of the greatest one of some stones, ascending."""
    greatest = max(stones)
    return tuple([i for i, x in enumerate(stones) if x == greatest])


def parts_of(stones, ends):
    """The pairs (stones, ends) of the parts ahead of, between and behind the tops of a row with these ends."""
    places = tops_of(stones)
    found = []
    first = 0
    # A top closes the part beside it as a wall does; only the first and the last part are at an end of the row.
    ahead = ends & 1
    for place in places:
        found.append((stones[first:place], ahead | 2))
        first = place + 1
        ahead = 1
    found.append((stones[first:], ahead | (ends & 2)))
    return tuple(found)


def tops(row):
    """The places at which the greatest stone stands, ascending."""
    return tops_of(row.stones)


def like_parts(row):
    """The pairs (stones, ends) of the parts ahead of, between and behind the tops."""
    return parts_of(row.stones, row.ends)
