"""What a house tells of its row and its goal."""

from turnedvalleys.errors import NoGoal
from turnedvalleys.fewest import fewest, run_to
from turnedvalleys.kin import same
from turnedvalleys.nopapers import paper


def goal_of(house):
    """The goal of a house that has one."""
    goal = house.goal()
    if goal is None:
        raise NoGoal(0)
    return goal


def can(house):
    """Whether the goal comes of the row."""
    return same(house.row(), goal_of(house))


def left(house):
    """The fewest turns from the row to the goal."""
    return fewest(house.row(), goal_of(house))


def way(house):
    """The run of the fewest turns from the row to the goal."""
    return run_to(house.row(), goal_of(house))


def why(house):
    """The paper that shows that the goal does not come, or None if it does."""
    return paper(house.row(), goal_of(house))
