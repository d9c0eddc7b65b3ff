"""Walks: which statements a run does by a list of ways, and its end [7].

All runs of a program by one list of ways do the same statements, whatever copies
they make, so what they have in common stands here.
"""

from copyplaces.flow import flow, flow_start
from copyplaces.programs import spot_paths, statement_at, way_count


def walk(program, ways):
    """Return the list of the steps and the end of the runs by these ways.

    A step is a pair: the number of a spot that uses a way and its statement, or None
    and a statement that is passed.
    """
    steps, spot = _steps_of(flow_start(program))
    # Rounds of a loop go the same stretches again, so each is worked out once.
    known = {}
    for way in ways:
        if spot is None:
            break
        if (spot, way) not in known:
            if not 0 <= way < way_count(program, spot):
                return steps, ("astray", spot)
            known[spot, way] = _stretch(program, spot, way)
        done, spot = known[spot, way]
        steps.extend(done)
    if spot is None:
        return steps, ("end",)
    return steps, ("open", spot)


def shown_along(program, ways, state):
    """Do the steps on the state of the names; return what the looks show, and the end."""
    steps, end = walk(program, ways)
    shown = []
    for spot, statement in steps:
        if statement[0] == "look":
            shown.append((spot, state.value_of(statement[1])))
        state.do(statement)
    return tuple(shown), end


def _stretch(program, spot, way):
    """Return the steps from the spot by the way, and the next spot or None."""
    passed, after = _steps_of(flow(program, spot, way))
    return [(spot, statement_at(program, spot_paths(program)[spot]))] + passed, after


def _steps_of(passing):
    passed, after = passing
    return [(None, statement) for statement in passed], after
