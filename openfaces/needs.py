"""What must go before what: arcs one after another."""

from openfaces.arcs import cone


def needed(mine, blocks):
    """All blocks that must go before one of these, as the keys of a dict."""
    reached = {}
    waiting = list(blocks)
    while len(waiting) > 0:
        block = waiting.pop()
        for above in cone(mine, block):
            if above not in reached:
                reached[above] = True
                waiting.append(above)
    return reached


def blocks_before(mine, block):
    """All blocks that must go before this one, rising."""
    return sorted(needed(mine, [block]))


def blocks_direct(mine, block):
    """Those blocks of its cone that need not go before another block of its cone, rising."""
    near = cone(mine, block)
    implied = needed(mine, near)
    return [above for above in near if above not in implied]


def blocks_after(mine, block):
    """All blocks that need this one, rising."""
    # Arcs lead upwards, to lesser numbers, so each block comes here behind all of its cone.
    needing = {block: True}
    for later in range(block + 1, mine.total):
        if any([above in needing for above in cone(mine, later)]):
            needing[later] = True
    return [later for later in needing if later != block]


def closure(mine, blocks):
    """The least blocks, rising, that hold all of these that aren't dug and lack none."""
    wanted = needed(mine, blocks)
    for block in blocks:
        wanted[block] = True
    # All that a dug block needs is dug too, so it's enough to leave out the dug ones at the end.
    return [block for block in sorted(wanted) if mine.dug[block] == 0]
