"""The refusals of the program, one class for each kind."""


class StairError(ValueError):
    """Something that was handed in is refused."""


class BadStairs(StairError):
    """What should be stairs is not."""


class BadCount(StairError):
    """What should be a count is not, or there are not so many."""


class BadNumber(StairError):
    """What should be the number of a way is not."""


class BadTowers(StairError):
    """What should be towers of the stairs is not."""


class BadText(StairError):
    """What should be written stairs is not."""
