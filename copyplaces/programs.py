"""Programs: which values are programs, their labels, and their spots [4, 5].

A program is a pair (names, block). The path of a block and the path of a
statement are tuples of indexes: () is the program's block, (2,) its third
statement, (2, 0) that statement's first block.
"""

from copyplaces.errors import InvalidProgram

MOST_NAMES = 4
MOST_LABEL = 7
MOST_MARK = 9
MOST_IN_BLOCK = 8
MOST_STATEMENTS = 40
MOST_SPOTS = 12
MOST_DEPTH = 5
LEAST_CHOICES = 2
MOST_CHOICES = 3
SPOT_WORDS = ("look", "choose", "loop")


def require_program(value):
    """Return the value, which may be anything, if it is a program."""
    if not isinstance(value, tuple) or len(value) != 2:
        raise InvalidProgram(())
    names, block = value
    if not is_number(names, 1, MOST_NAMES):
        raise InvalidProgram(())
    _require_block(block, names, ())
    # These two come last: a fault in any block or statement is told before them.
    many_statements = len(statements_in(block, ()))
    if many_statements > MOST_STATEMENTS or len(spot_paths(value)) > MOST_SPOTS:
        raise InvalidProgram(())
    return value


def labels_of(program):
    """Return the ascending tuple of the labels that stand in the program."""
    rows = statements_in(program[1], ())
    return tuple(sorted({statement[1] for _, statement in rows if has_label(statement)}))


def spot_paths(program):
    """Return the tuple of the paths of the spots, by the spots' numbers."""
    return tuple([path for path, statement in statements_in(program[1], ()) if is_spot(statement)])


def way_count(program, spot):
    """Return how many ways the spot with this number has."""
    statement = statement_at(program, spot_paths(program)[spot])
    inner = len(blocks_in(statement))
    # A loop has one way more than blocks, the one that goes on behind it; so has a look.
    return inner if statement[0] == "choose" else inner + 1


def is_number(value, least, most):
    """Return whether the value is an integer, and no boolean, from least to most."""
    return isinstance(value, int) and not isinstance(value, bool) and least <= value <= most


def has_label(statement):
    """Return whether the statement is a give or a change."""
    return statement[0] == "give" or statement[0] == "change"


def is_spot(statement):
    """Return whether the statement is a look, a choice or a loop."""
    return statement[0] in SPOT_WORDS


def blocks_in(statement):
    """Return the blocks that stand in the statement, in order."""
    if statement[0] == "choose":
        return statement[1]
    if statement[0] == "loop":
        return (statement[1],)
    return ()


def statements_in(block, path):
    """Return pairs of a path and a statement, in the order written, also of inner blocks."""
    rows = []
    for index, statement in enumerate(block):
        here = path + (index,)
        rows.append((here, statement))
        for which, inner in enumerate(blocks_in(statement)):
            rows.extend(statements_in(inner, here + (which,)))
    return rows


def block_at(program, path):
    """Return the block with this path."""
    block = program[1]
    for k in range(0, len(path), 2):
        block = blocks_in(block[path[k]])[path[k + 1]]
    return block


def statement_at(program, path):
    """Return the statement with this path."""
    return block_at(program, path[:-1])[path[-1]]


def _require_block(block, names, path):
    # Each block around this one has put two indexes into the path.
    depth = len(path) // 2 + 1
    if not isinstance(block, tuple) or len(block) > MOST_IN_BLOCK or depth > MOST_DEPTH:
        raise InvalidProgram(path)
    for index, statement in enumerate(block):
        here = path + (index,)
        if not is_statement(statement, names):
            raise InvalidProgram(here)
        for which, inner in enumerate(blocks_in(statement)):
            _require_block(inner, names, here + (which,))


def is_statement(value, names):
    """Return whether the value is a statement, whatever its blocks are."""
    if not isinstance(value, tuple) or len(value) == 0:
        return False
    word = value[0]
    # The word may be any value, so it is compared and not looked up.
    if word == "fresh" or word == "look":
        return len(value) == 2 and _is_name(value[1], names)
    if word == "give":
        return len(value) == 4 and _is_label(value[1]) and _are_two_names(value[2], value[3], names)
    if word == "change":
        return (len(value) == 4 and _is_label(value[1]) and _is_name(value[2], names)
                and is_number(value[3], 0, MOST_MARK))
    if word == "choose":
        return (len(value) == 2 and isinstance(value[1], tuple)
                and LEAST_CHOICES <= len(value[1]) <= MOST_CHOICES)
    return word == "loop" and len(value) == 2


def _is_name(value, names):
    return is_number(value, 0, names - 1)


def _are_two_names(x, y, names):
    return _is_name(x, names) and _is_name(y, names) and x != y


def _is_label(value):
    return is_number(value, 0, MOST_LABEL)
