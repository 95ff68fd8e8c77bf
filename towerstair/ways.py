"""The ways to set towers on stairs, by their numbers.

Of the ways to set so many towers on some columns, those without a tower in the
last column come first, in their own order on the columns ahead. Then come the
others, ordered by the way on the columns ahead, then by the row in the last
column. So a number is taken apart column by column, from the last one on.
"""

from towerstair.checks import are_towers, check_stairs, is_count
from towerstair.errors import BadCount, BadNumber, BadTowers
from towerstair.stairs import add_column, take_column, ways_up_to, ways_without_columns


def way_of(stairs, many, number):
    """Tell the towers, so many, that have this number."""
    check_stairs(stairs)
    if not is_count(many) or many > len(stairs):
        raise BadCount("there is at most one tower for each column")
    ways = ways_up_to(stairs, many)
    if not is_count(number) or number >= ways[many]:
        raise BadNumber("the number is less than there are ways")
    return _with_rows(_choices(stairs, ways, number))


def number_of(stairs, towers):
    """Tell the number of these towers among the ways to set so many."""
    check_stairs(stairs)
    if not are_towers(stairs, towers):
        raise BadTowers("towers are cells, columns rising, no two in one row")
    rows = dict(towers)
    ways = ways_without_columns(len(towers))
    taken = []
    number = 0
    for column, height in enumerate(stairs):
        if column in rows:
            many = len(taken)
            free = _free_below(taken, rows[column])
            number = ways[many + 1] + number * (height - many) + free
            taken.append(rows[column])
        add_column(ways, height)
    return number


def _choices(stairs, ways, number):
    """Take a number apart: columns from the last on, each with its free rows below.

    The ways are those of all columns; they are used up.
    """
    left = len(ways) - 1
    choices = []
    for column in reversed(range(len(stairs))):
        height = stairs[column]
        take_column(ways, height)
        if number >= ways[left]:
            number, free = divmod(number - ways[left], height - left + 1)
            choices.append((column, free))
            left -= 1
    return choices


def _with_rows(choices):
    """Tell the towers, columns rising, of columns with their free rows below."""
    towers = []
    taken = []
    for column, free in reversed(choices):
        row = _row_above(taken, free)
        towers.append((column, row))
        taken = sorted(taken + [row])
    return towers


def _row_above(taken, free):
    """Tell the free row with so many free rows below; taken rows are rising."""
    row = free
    for other in taken:
        if other <= row:
            row += 1
    return row


def _free_below(taken, row):
    """Tell how many rows below this one are not taken."""
    return row - len([other for other in taken if other < row])
