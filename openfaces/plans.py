"""Plans: one order in which all is dug that can be, and how many orders there are for some blocks."""

from openfaces.digging import faces
from openfaces.digging import hindrance


def plan(mine):
    """The blocks as they're dug if each time the open one of the least phase, then the least number, is dug."""
    gone = list(mine.dug)
    order = []
    ready = faces(mine, gone)
    while len(ready) > 0:
        block = min(ready, key=lambda face: (mine.phases[face], face))
        gone[block] = 1
        order.append(block)
        ready = faces(mine, gone)
    return order


def dig_one_more(mine, blocks, ways):
    """In how many ways one block more can have gone; ways: for what is gone, in how many ways it can have."""
    more = {}
    for gone, number in ways.items():
        for block in blocks:
            if hindrance(mine, block, gone) == 0:
                later = list(gone)
                later[block] = 1
                key = tuple(later)
                more[key] = more.get(key, 0) + number
    return more


def count_orders(mine, blocks):
    """In how many orders all of the blocks can be dug, one after another, from now on."""
    # Counted by what has gone, not order by order: 8 blocks have 40320 orders, but only 256 parts.
    ways = {tuple(mine.dug): 1}
    for block in blocks:
        ways = dig_one_more(mine, blocks, ways)
    return sum(ways.values())
