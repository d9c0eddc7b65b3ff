"""Least copyings and least clauses, and the price of copyings [14]."""

from copyplaces.clauses import meets, read_clause
from copyplaces.programs import labels_of
from copyplaces.safety import breaking


def least_copyings(program):
    """Return the ascending tuple of all least safe copyings."""
    least = []
    clauses = []
    for copying in _choices_of(labels_of(program)):
        # A copying that misses a clause is not safe; one around a safe one is not least.
        if _has_one_of(copying, least) or not _meets_all(copying, clauses):
            continue
        ways = breaking(program, copying)
        if ways is None:
            least.append(copying)
        else:
            clauses.append(read_clause(program, copying, ways))
    return tuple(sorted(least))


def least_clauses(program):
    """Return the ascending tuple of all least clauses."""
    copyings = least_copyings(program)
    least = []
    for some in _choices_of(labels_of(program)):
        # Every safe copying has all labels of a least one, so these alone need be met.
        if _meets_all(some, copyings) and not _has_one_of(some, least):
            least.append(some)
    return tuple(sorted(least))


def price_of(copying, prices):
    """Return the sum of the prices of all labels of the copying."""
    return sum([prices[label] for label in copying])


def least_price(program, prices):
    """Return the least price of a safe copying."""
    return price_of(cheapest(program, prices), prices)


def cheapest(program, prices):
    """Return the first one of the least copyings that has the least price."""
    # No price is below 0, so leaving labels out makes nothing dearer; min takes the first one.
    return min(least_copyings(program), key=lambda copying: price_of(copying, prices))


def _choices_of(labels):
    """Return the list of all copyings of these labels, those with fewer labels first."""
    choices = [()]
    for label in labels:
        choices = choices + [choice + (label,) for choice in choices]
    return sorted(choices, key=len)


def _has_one_of(some, rows):
    """Return whether all labels of one of the rows are in some."""
    return any([all([label in some for label in row]) for row in rows])


def _meets_all(some, rows):
    return all([meets(row, some) for row in rows])
