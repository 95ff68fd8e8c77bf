"""Small stairs and all their towers by trying, and what is refused."""

from itertools import combinations, combinations_with_replacement, product, zip_longest

NO_STAIRS = [
    None, 3, "12", b"12", (), (1, 2), {}, {1: 2}, {1, 2}, range(3), iter([1]), object(), list,
    True, False, [True], [False], [0, True], [False, 1], [-1], [0, -1], [2, 1], [1, 3, 2, 4],
    [1, 2, 0], ["1"], [None], [[1]], [(1,)], [1, None], [1, "2"], [1j], [10 ** 5000, 10 ** 5000 - 1],
]

NO_COUNTS = [None, "1", b"1", [], [1], (), (1,), {}, object(), int, True, False, -1, -(10 ** 5000), 1j]


def small_stairs(columns=4, highest=4):
    """All stairs of so many columns at the most, none higher than that."""
    for many in range(columns + 1):
        for heights in combinations_with_replacement(range(highest + 1), many):
            yield list(heights)


def all_towers(stairs, many):
    """All ways to set so many towers, each column and row tried."""
    found = []
    for columns in combinations(range(len(stairs)), many):
        for rows in product(*[range(stairs[column]) for column in columns]):
            if len(set(rows)) == many:
                found.append(list(zip(columns, rows)))
    return found


def is_way(stairs, many, towers):
    """Whether these are so many towers of the stairs, told in the asked form."""
    if type(towers) is not list or len(towers) != many:
        return False
    for cell in towers:
        if type(cell) is not tuple or [type(part) for part in cell] != [int, int]:
            return False
    columns = [column for column, _ in towers]
    rows = [row for _, row in towers]
    inside = all(0 <= row < stairs[column] for column, row in towers)
    return inside and columns == sorted(set(columns)) and len(set(rows)) == many


def first_difference(ways, others):
    """The first count with other ways, None if there is none; what is missing is 0."""
    for many, (mine, yours) in enumerate(zip_longest(ways, others, fillvalue=0)):
        if mine != yours:
            return many
    return None
