"""Forms: which values, whatever they are, are copyings, lists of ways, prices, tables and trees.

See [7, 8] of the document for the first two, [14] for prices, [10] for tables, [16] for trees.
"""

from copyplaces.programs import MOST_LABEL, is_number

MOST_WAY = 2
MOST_PRICE = 99


def is_copying(value):
    """Return whether the value is a copying."""
    # Only what is surely a number is compared with the others.
    return _are_numbers(value, MOST_LABEL) and _ascends(value)


def is_ways(value):
    """Return whether the value is a list of ways."""
    return _are_numbers(value, MOST_WAY)


def is_price(value):
    """Return whether the value is the price of a label."""
    return is_number(value, 0, MOST_PRICE)


def are_prices(value):
    """Return whether the value has a price for each label."""
    return _are_numbers(value, MOST_PRICE) and len(value) == MOST_LABEL + 1


def is_table(value, names, spots):
    """Return whether the value is a table of a program with so many names and spots."""
    if not isinstance(value, tuple):
        return False
    # Only possible facts are compared: all of them can be, and other values may not.
    return all(_is_possible_fact(fact, names, spots) for fact in value) and _ascends(value)


def is_tree(value, is_content, most_nodes):
    """Return whether the value is a tree with at most so many nodes within one another.

    is_content tells whether a value may be the content of a leaf.
    """
    if not isinstance(value, tuple) or len(value) == 0:
        return False
    if value[0] == "leaf":
        return len(value) == 2 and is_content(value[1])
    if value[0] != "node" or len(value) != 4 or most_nodes == 0:
        return False
    _, clause, ways, trees = value
    if not is_copying(clause) or clause == () or not is_ways(ways):
        return False
    if not isinstance(trees, tuple) or len(trees) != len(clause):
        return False
    return all(is_tree(tree, is_content, most_nodes - 1) for tree in trees)


def _is_possible_fact(value, names, spots):
    if not isinstance(value, tuple) or len(value) < 2 or not is_number(value[0], 0, spots - 1):
        return False
    word = value[1]
    told = value[2:]
    if not _are_numbers(told, names - 1):
        return False
    if word == "share":
        return len(told) == 2 and told[0] < told[1]
    return word == "reached" and len(told) == 0 or word == "stale" and len(told) == 1


def _are_numbers(value, most):
    """Return whether the value is a tuple of integers from 0 to most."""
    return isinstance(value, tuple) and all(is_number(item, 0, most) for item in value)


def _ascends(items):
    """Return whether each item of the tuple is above the one before it."""
    return all(items[k] < items[k + 1] for k in range(len(items) - 1))
