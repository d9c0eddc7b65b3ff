"""Edits: the block in which a path is, and a program with another block there [5, 19]."""

from copyplaces.programs import blocks_in, is_number


def within(program, path):
    """Return the block in which the last index of the path, which may be any value, is to be looked for.

    Return None if there is no such block.
    """
    if not isinstance(path, tuple) or len(path) % 2 == 0:
        return None
    block = program[1]
    for k in range(0, len(path) - 1, 2):
        if not is_number(path[k], 0, len(block) - 1):
            return None
        blocks = blocks_in(block[path[k]])
        if not is_number(path[k + 1], 0, len(blocks) - 1):
            return None
        block = blocks[path[k + 1]]
    return block


def with_block(program, path, block):
    """Return the program with the block in the place of the one in which the path's last index is."""
    names, whole = program
    return (names, _replaced(whole, path, block))


def _replaced(around, path, block):
    if len(path) == 1:
        return block
    index, which = path[:2]
    statement = around[index]
    blocks = blocks_in(statement)
    inner = _replaced(blocks[which], path[2:], block)
    if statement[0] == "loop":
        changed = ("loop", inner)
    else:
        changed = ("choose", blocks[:which] + (inner,) + blocks[which + 1:])
    return around[:index] + (changed,) + around[index + 1:]
