"""How many ways there are to set towers on stairs."""

from towerstair.checks import check_stairs, is_count
from towerstair.errors import BadCount


def counts(stairs):
    """Tell how many ways there are to set 0 towers, 1, .. one in each column."""
    check_stairs(stairs)
    return ways_up_to(stairs, len(stairs))


def filled(stairs, more):
    """Tell how many ways set a tower in each column, all made higher by more."""
    check_stairs(stairs)
    if not is_count(more):
        raise BadCount("the rows more are a whole number from 0 on")
    ways = 1
    # A factor falls by 1 at the most from column to column, so none is below 0
    # unless one ahead of it is 0.
    for column, height in enumerate(stairs):
        ways *= height + more - column
    return ways


def ways_up_to(stairs, most):
    """Tell how many ways there are to set 0 towers, 1, .. most."""
    ways = ways_without_columns(most)
    for height in stairs:
        add_column(ways, height)
    return ways


def ways_without_columns(most):
    """Tell the ways to set 0 towers, 1, .. most where there is no column yet."""
    return [1] + [0] * most


def add_column(ways, height):
    """Change the ways for some columns to those with one more behind them."""
    # The towers ahead stand in rows that the new, not lower column has too, so
    # each of them takes one of its cells. From the most down: each count needs
    # the one below it without the new column.
    for many in range(min(len(ways) - 1, height), 0, -1):
        ways[many] += ways[many - 1] * (height - many + 1)


def take_column(ways, height):
    """Undo add_column, for the last column that was added."""
    for many in range(1, min(len(ways) - 1, height) + 1):
        ways[many] -= ways[many - 1] * (height - many + 1)
