"""Runs with real copies: what they show, and the names' values [7]."""

from copyplaces.walks import walk


def run(program, ways):
    """Return what is shown, as a tuple of pairs of a spot and a value, and the end."""
    _, shown, end = _ran(program, ways)
    return shown, end


def values_behind(program, ways):
    """Return the tuple of the values that the names have behind the ways."""
    values, _, _ = _ran(program, ways)
    return tuple(values)


def _ran(program, ways):
    """Return the list of the names' values, what is shown, and the end."""
    steps, end = walk(program, ways)
    values = [()] * program[0]
    shown = []
    for spot, statement in steps:
        if statement[0] == "look":
            shown.append((spot, values[statement[1]]))
        _do(values, statement)
    return values, tuple(shown), end


def _do(values, statement):
    """Change the list of values as the statement says; a spot changes nothing."""
    if statement[0] == "fresh":
        values[statement[1]] = ()
    elif statement[0] == "give":
        _, _, x, y = statement
        values[x] = values[y]
    elif statement[0] == "change":
        _, _, x, mark = statement
        values[x] += (mark,)
