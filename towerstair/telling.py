"""The most towers on stairs, and which stairs have as many ways."""

from towerstair.answers import Alike, Most, Unlike
from towerstair.checks import check_stairs
from towerstair.likeness import least_unlike


def fullest(stairs):
    """Tell as many towers as can be set, with the rows that show it."""
    check_stairs(stairs)
    towers = []
    rows = 0
    for column, height in enumerate(stairs):
        if height > len(towers):
            towers.append((column, len(towers)))
        else:
            # Up to here all cells are in the rows taken so far. The columns
            # behind the last one without a tower are all higher than these.
            rows = len(towers)
    return Most(towers, rows)


def alike(one, other):
    """Tell whether two stairs have as many ways, or for which count first not."""
    check_stairs(one)
    check_stairs(other)
    many = least_unlike(one, other)
    if many is None:
        return Alike()
    return Unlike(many)


def plain(stairs):
    """Tell the stairs that are alike and rise from column to column, all above 0."""
    towers = fullest(stairs).towers
    # The columns left without a tower have the factors 0, -1, -2, .. of point 4,
    # just as so many columns of height 0 have that stand ahead of all others.
    # The other factors, rising, are those of columns of which each is higher
    # than the one ahead.
    without = len(stairs) - len(towers)
    factors = sorted([stairs[column] - column for column, _ in towers])
    return [factor + without + column for column, factor in enumerate(factors)]
