"""The errors of the package: all under Refused, and none under another one."""


class Refused(ValueError):
    """What was handed in is refused; what tells why."""

    def __init__(self, what):
        self.what = what


class BadSize(Refused):
    """A row, ring or count has too few or too many stones."""


class BadCount(Refused):
    """A number of things is out of its range."""


class BadNumber(Refused):
    """An index among counted things is out of its range."""


class BadSubset(Refused):
    """Places are no subset: the index of the first bad one."""


class BadStone(Refused):
    """A stone is none of the row, or may not stand in one."""


class BadEnds(Refused):
    """Ends are not 0 to 3."""


class BadRule(Refused):
    """A rule has a wrong length: its index."""


class BadTurn(Refused):
    """What is to be turned is no free head."""


class BadStretch(Refused):
    """A stretch may not be turned about."""


class BadRun(Refused):
    """A run or a sequence of rounds fails: the index where it does."""


class TooMany(Refused):
    """There are more things than are let: how many."""


class BadHead(Refused):
    """A stone is no head."""


class BadShape(Refused):
    """Triples are no right shape."""


class BadSenses(Refused):
    """There are not as many bits as heads, or one is not 0 or 1."""


class Unlike(Refused):
    """Rows differ in what must be alike: its name."""


class NotSame(Refused):
    """A row does not come of the first one: its index."""


class BadPrices(Refused):
    """There are too few or too many prices, or one is out of its range."""


class BadRound(Refused):
    """A tuple of stones is no round of the row."""


class BadRows(Refused):
    """There are too few or too many rows."""


class BadWeights(Refused):
    """There are not as many weights as rows, or one is out of its range."""


class TooLarge(Refused):
    """A row is too large for what is asked."""


class BadPair(Refused):
    """A pair of stones is one stone twice."""


class BadWish(Refused):
    """A wish is no pair of two stones of the row: its index."""


class NotKept(Refused):
    """No row of the class keeps all wishes."""


class BadKind(Refused):
    """A kind is none of those that there are."""


class BadPrefix(Refused):
    """A beginning has a bad stone: its index."""


class BadPlace(Refused):
    """A place is out of its range."""


class BadCuts(Refused):
    """Cuts are not as they must be: the index of the first bad one."""


class BadText(Refused):
    """A text is not written as it must be."""


class BadWords(Refused):
    """Words are no deed and no question."""


class NoGoal(Refused):
    """A house has no goal."""


class NothingToUndo(Refused):
    """No deed stands that can be undone."""


class NothingToRedo(Refused):
    """No deed was undone that can be done again."""
