"""Safe copyings: whether runs by sharing show what real copies show [11]."""

from copyplaces.facts import ways_by_fact
from copyplaces.programs import spot_paths, statement_at


def is_safe(program, copying):
    """Return whether the copying is safe for the program."""
    return breaking(program, copying) is None


def breaking(program, copying):
    """Return ways whose runs show different things, or None if the copying is safe."""
    looks = stale_looks(program)
    found = ways_by_fact(program, copying)
    for fact in found:
        if fact in looks:
            # The way 0 of the look lets it show the value of the stale name.
            return found[fact] + (0,)
    return None


def stale_looks(program):
    """Return the list of the possible facts that a name is stale at a look of it."""
    facts = []
    for spot, path in enumerate(spot_paths(program)):
        statement = statement_at(program, path)
        if statement[0] == "look":
            facts.append((spot, "stale", statement[1]))
    return facts
