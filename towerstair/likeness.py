"""For which count of towers two stairs first have unlike many ways."""


def least_unlike(one, other):
    """Tell the least count of towers for which the ways differ; None if for none."""
    # With as many columns both, the ways for the counts below some count are the
    # same just if the powers of the factors below that exponent have the same
    # sums: the ways, the coefficients of the product of point 4 and these sums
    # each follow from the other, from the least on.
    columns = max(len(one), len(other))
    times = {}
    for factor in _factors(one, columns):
        times[factor] = times.get(factor, 0) + 1
    for factor in _factors(other, columns):
        times[factor] = times.get(factor, 0) - 1
    # What both have adds nothing. What is left has some unlike sum of powers.
    terms = [(factor, many) for factor, many in times.items() if many != 0]
    if not terms:
        return None
    return _least_power(terms)


def _factors(stairs, columns):
    """Tell the factors of point 4, first made so many columns by those of height 0."""
    heights = [0] * (columns - len(stairs)) + stairs
    return [height - column for column, height in enumerate(heights)]


def _least_power(terms):
    """Tell the least exponent for which the powers, taken so many times, don't sum to 0."""
    exponent = 0
    total = 0
    while total == 0:
        exponent += 1
        terms = [(factor, term * factor) for factor, term in terms]
        total = sum([term for _, term in terms])
    return exponent
