"""Papers that show that a row does not come of another one."""

from turnedvalleys.forests import heads, held_heads, is_let, is_record, parent
from turnedvalleys.forms import fits, is_number
from turnedvalleys.kin import check_alike
from turnedvalleys.lots import lot
from turnedvalleys.rows import is_ahead
from turnedvalleys.senses import sense_of
from turnedvalleys.sides import meets


def same_lots(one, two, x):
    """Whether the stone x has the same lot, as a set, in both rows."""
    return sorted(lot(one, x)) == sorted(lot(two, x))


def same_order(one, two, x, y):
    """Whether the stones x and y stand in the same order in both rows."""
    return is_ahead(one, x, y) == is_ahead(two, x, y)


def lot_paper(one, two):
    """The paper of the least stone with different lots, or None."""
    for x in sorted(one.stones):
        if not same_lots(one, two, x):
            return ("lot", x)
    return None


def order_paper(one, two):
    """The paper of the greatest stone that stands beside a record, its parent, in another order, or None."""
    for x in sorted(one.stones, reverse=True):
        p = parent(one, x)
        if p is not None and is_record(one, p) and not same_order(one, two, x, p):
            return ("order", x, p)
    return None


def sense_paper(one, two):
    """The paper of the least held head with different senses, or None."""
    for x in held_heads(one):
        if sense_of(one, x) != sense_of(two, x):
            return ("sense", x)
    return None


def paper(one, two):
    """The paper that shows that two does not come of one, or None if it does."""
    check_alike(one, two)
    found = lot_paper(one, two)
    # The other two papers ask for parents and heads, which are alike where all lots are.
    if found is None:
        found = order_paper(one, two)
    if found is None:
        found = sense_paper(one, two)
    return found


def is_paper(value):
    """Whether a value of any kind has the form of a paper."""
    if not isinstance(value, tuple) or len(value) not in (2, 3):
        return False
    for x in value[1:]:
        if not is_number(x) or not fits(x):
            return False
    return value[0] in ("lot", "sense") if len(value) == 2 else value[0] == "order"


def lot_right(one, two, x):
    """Whether the lots of the stone x are different."""
    return not same_lots(one, two, x)


def order_right(one, two, x, y):
    """Whether the stones x and y meet at a record in each row, and stand in another order."""
    if x == y or same_order(one, two, x, y):
        return False
    return is_record(one, meets(one, x, y)) and is_record(two, meets(two, x, y))


def sense_right(one, two, x):
    """Whether the stone x is a held head of both rows, with the same lot and different senses."""
    if x not in heads(one) or x not in heads(two) or is_let(one, x) or not same_lots(one, two, x):
        return False
    return sense_of(one, x) != sense_of(two, x)


def paper_right(one, two, paper):
    """Whether a paper shows that two does not come of one."""
    if one.ends != two.ends or one.rule != two.rule or sorted(one.stones) != sorted(two.stones):
        return False
    if not is_paper(paper) or not all([x in one for x in paper[1:]]):
        return False
    if paper[0] == "lot":
        return lot_right(one, two, paper[1])
    if paper[0] == "order":
        return order_right(one, two, paper[1], paper[2])
    return sense_right(one, two, paper[1])
