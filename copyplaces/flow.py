"""The flow: which statements are passed on the way to the next spot [6]."""

from copyplaces.programs import block_at, blocks_in, is_spot, spot_paths, statement_at, way_count


def flow_start(program):
    """Return what is passed from the beginning, and the next spot or None."""
    return _flow_from(program, (0,))


def flow(program, spot, way):
    """Return what is passed from the spot by the way, and the next spot or None."""
    path = spot_paths(program)[spot]
    if way < len(blocks_in(statement_at(program, path))):
        return _flow_from(program, path + (way, 0))
    return _flow_from(program, _behind(path))


def flows_of(program):
    """Return for each spot the list of what flow tells for its ways."""
    return [[flow(program, spot, way) for way in range(way_count(program, spot))]
            for spot in range(len(spot_paths(program)))]


def _flow_from(program, path):
    """Go on from the path of a statement, or of the end of a block."""
    passed = []
    while True:
        block = block_at(program, path[:-1])
        if path[-1] < len(block):
            statement = block[path[-1]]
            if is_spot(statement):
                return tuple(passed), spot_paths(program).index(path)
            passed.append(statement)
            path = _behind(path)
        elif len(path) == 1:
            return tuple(passed), None
        else:
            path = _out_of_block(program, path)


def _out_of_block(program, path):
    """Return where the run goes on behind the end of the block in which the path is."""
    around = path[:-2]
    # The end of a loop's block comes back to the loop, which is met again as a spot.
    if statement_at(program, around)[0] == "loop":
        return around
    return _behind(around)


def _behind(path):
    return path[:-1] + (path[-1] + 1,)
