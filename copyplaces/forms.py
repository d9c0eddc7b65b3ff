"""Forms: which values, whatever they are, are copyings and lists of ways [7, 8]."""

from copyplaces.programs import MOST_LABEL, is_number

MOST_WAY = 2


def is_copying(value):
    """Return whether the value is a copying."""
    if not isinstance(value, tuple):
        return False
    # Only what is surely a number is compared with the others.
    return all([is_number(label, 0, MOST_LABEL) for label in value]) and ascends(value)


def is_ways(value):
    """Return whether the value is a list of ways."""
    return isinstance(value, tuple) and all([is_number(way, 0, MOST_WAY) for way in value])


def ascends(items):
    """Return whether each item of the tuple is above the one before it."""
    return all([items[k] < items[k + 1] for k in range(len(items) - 1)])
