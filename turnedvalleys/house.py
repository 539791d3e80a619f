"""A house: a row that is kept through deeds and undoing."""

from turnedvalleys.errors import BadStone, NothingToRedo, NothingToUndo, TooMany, Unlike
from turnedvalleys.forms import fits
from turnedvalleys.growth import put_in
from turnedvalleys.rows import row_like
from turnedvalleys.runs import walked
from turnedvalleys.turning import turned


class House:
    """A row, a goal, and the deeds that stand."""

    def __init__(self, row):
        # The deeds that stand, then those that were undone; and row and goal at the beginning and after each deed.
        self._known = []
        self._states = [(row, None)]
        self._standing = 0

    def row(self):
        """The Row as it stands."""
        return self._states[self._standing][0]

    def goal(self):
        """The goal, or None."""
        return self._states[self._standing][1]

    def deeds(self):
        """The deeds that stand."""
        return tuple(self._known[:self._standing])

    def _stand(self, deed, row, goal):
        """Let a deed that leads to this row and this goal stand, and forget what was undone."""
        if self._standing == 200:
            raise TooMany(201)
        self._known = self._known[:self._standing] + [deed]
        self._states = self._states[:self._standing + 1] + [(row, goal)]
        self._standing += 1

    def turn(self, x):
        """Turn a free head."""
        self._stand(("turn", x), turned(self.row(), x), self.goal())

    def lay(self, run):
        """Do a run."""
        self._stand(("lay", run), walked(self.row(), run), self.goal())

    def put(self, x, place):
        """Put a new stone in so that it has that place."""
        if not fits(x) or x in self.row():
            raise BadStone(x)
        self._stand(("put", x, place), put_in(self.row(), x, place), None)

    def take(self, x):
        """Take a stone out."""
        row = self.row()
        place = row.place(x)
        # A Row refuses to be without a stone by itself.
        self._stand(("take", x, place), row_like(row, row.stones[:place] + row.stones[place + 1:]), None)

    def aim(self, stones):
        """Make the Row of these stones the goal."""
        row = self.row()
        goal = row_like(row, stones)
        if sorted(stones) != sorted(row.stones):
            raise Unlike("stones")
        self._stand(("aim", stones), row, goal)

    def undo(self):
        """Take back the last deed that stands."""
        if self._standing == 0:
            raise NothingToUndo(0)
        self._standing -= 1

    def redo(self):
        """Do again the deed that was undone last."""
        if self._standing == len(self._known):
            raise NothingToRedo(0)
        self._standing += 1
