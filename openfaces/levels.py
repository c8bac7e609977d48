"""Levels: what of one level is dug, and where its floor is narrow."""

from openfaces.digging import hindrance
from openfaces.ground import blocks_within
from openfaces.ground import places_of


def blocks_of_level(mine, z):
    """The numbers of a level's blocks, rising."""
    return blocks_within(mine, [0, mine.nx - 1, 0, mine.ny - 1, z, z])


def walls_at(mine, block):
    """How many of its neighbours to the east and to the north are dug if it isn't, or aren't if it is."""
    places = places_of(mine, block)
    walls = 0
    if places[0] + 1 < mine.nx and mine.dug[block] != mine.dug[block + 1]:
        walls += 1
    if places[1] + 1 < mine.ny and mine.dug[block] != mine.dug[block + mine.nx]:
        walls += 1
    return walls


def level_counts(mine, z):
    """Of a level: how many are dug; how many pairs of a dug and an undug one lie side by side; how many are open."""
    blocks = blocks_of_level(mine, z)
    dug = sum([mine.dug[block] for block in blocks])
    # Each pair is found once, from its western or southern block.
    walls = sum([walls_at(mine, block) for block in blocks])
    ready = [block for block in blocks if hindrance(mine, block, mine.dug) == 0]
    return [dug, walls, len(ready)]


def is_floor(mine, block):
    """Whether it's dug or to be dug."""
    return mine.dug[block] == 1 or mine.phases[block] > 0


def narrow_blocks(mine, z, w):
    """The floor's blocks of a level, rising, that lie in no square of w by w blocks of the floor."""
    wide = {}
    for y in range(mine.ny - w + 1):
        for x in range(mine.nx - w + 1):
            square = blocks_within(mine, [x, x + w - 1, y, y + w - 1, z, z])
            if all([is_floor(mine, block) for block in square]):
                for block in square:
                    wide[block] = True
    floor = [block for block in blocks_of_level(mine, z) if is_floor(mine, block)]
    return [block for block in floor if block not in wide]
