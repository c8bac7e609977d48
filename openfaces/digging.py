"""Digging: what can go now, in which order, and what is lacking."""

from openfaces.arcs import first_missing


def hindrance(mine, block, gone):
    """Why a block can't be dug when these are gone (1 or 0 for each block): 0 if it can.

    2: there's no such block; 3: it's dug; 5: its phase is 0; 4: it isn't free.
    """
    if block >= mine.total:
        return 2
    if gone[block] == 1:
        return 3
    if mine.phases[block] == 0:
        return 5
    if first_missing(mine, block, gone) is not None:
        return 4
    return 0


def dig_block(mine, block):
    """Dig a block that nothing hinders: how many have been dug since the text."""
    mine.dug[block] = 1
    mine.since.append(block)
    return len(mine.since)


def undo_block(mine):
    """Put back the block that was dug last since the text (there is one): this block."""
    block = mine.since.pop()
    mine.dug[block] = 0
    return block


def faces(mine, gone):
    """All blocks that are open when these are gone (1 or 0 for each block), rising."""
    return [block for block in range(mine.total) if hindrance(mine, block, gone) == 0]


def check_order(mine, blocks):
    """1 if the blocks can be dug in this order from now on; else 0, the place of the first that can't be, and why."""
    gone = list(mine.dug)
    for place, block in enumerate(blocks):
        why = hindrance(mine, block, gone)
        if why > 0:
            return [0, place, why]
        gone[block] = 1
    return [1]


def check_lacks(mine, blocks):
    """1 if the list lacks no block; else 0, the first in it in whose cone one is that it lacks, and the least such."""
    gone = list(mine.dug)
    for block in blocks:
        gone[block] = 1
    for block in blocks:
        missing = first_missing(mine, block, gone)
        if missing is not None:
            return [0, block, missing]
    return [1]
