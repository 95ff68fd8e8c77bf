"""What counts, stairs, cells and towers are, whatever was handed in."""

from towerstair.errors import BadStairs


def is_count(value):
    """Tell whether this is a whole number from 0 on."""
    # True and False are integers to Python, but no numbers here.
    return isinstance(value, int) and not isinstance(value, bool) and value >= 0


def is_stairs(stairs):
    """Tell whether this is a list of heights, none less than the one ahead."""
    if not isinstance(stairs, list):
        return False
    least = 0
    for height in stairs:
        if not is_count(height) or height < least:
            return False
        least = height
    return True


def check_stairs(stairs):
    """Refuse what is not stairs."""
    # No message shows a value: Python refuses to write very large numbers.
    if not is_stairs(stairs):
        raise BadStairs("stairs are a list of rising whole heights from 0 on")


def is_cell(stairs, cell):
    """Tell whether this is a pair of a column of the stairs and a row in it."""
    if not isinstance(cell, tuple) or len(cell) != 2:
        return False
    column, row = cell
    if not is_count(column) or not is_count(row):
        return False
    return column < len(stairs) and row < stairs[column]


def are_towers(stairs, towers):
    """Tell whether these are cells of the stairs, columns rising, rows apart."""
    if not isinstance(towers, list):
        return False
    least = 0
    for cell in towers:
        if not is_cell(stairs, cell) or cell[0] < least:
            return False
        least = cell[0] + 1
    return len({cell[1] for cell in towers}) == len(towers)
