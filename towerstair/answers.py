"""What is told of stairs, with a check of it against the stairs."""

from towerstair.checks import are_towers, is_count
from towerstair.likeness import least_unlike


class Answer:
    """Something told of stairs."""


class Most(Answer):
    """Towers, and as many rows from row 0 on and columns higher than these rows."""

    def __init__(self, towers, rows):
        self.towers = list(towers)
        self.rows = rows

    def shows(self, stairs):
        """Tell whether no more towers can be set on the stairs, by these rows."""
        # The fields may have been changed to whatever by now.
        if not are_towers(stairs, self.towers) or not is_count(self.rows):
            return False
        higher = [height for height in stairs if height > self.rows]
        return self.rows + len(higher) == len(self.towers)


class Alike(Answer):
    """For each count of towers there are as many ways on both stairs."""

    def shows(self, one, other):
        """Tell whether it is so of these stairs."""
        return least_unlike(one, other) is None


class Unlike(Answer):
    """The least count of towers for which there are not as many ways."""

    def __init__(self, many):
        self.many = many

    def shows(self, one, other):
        """Tell whether it is so of these stairs."""
        return is_count(self.many) and least_unlike(one, other) == self.many
