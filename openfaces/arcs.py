"""Arcs: which blocks must have gone from above a block so that its walls stand."""

from openfaces.ground import block_at
from openfaces.ground import places_of


def has_arc(mine, number, k, east, north):
    """Whether a block of this set has an arc to the one k levels above it, so many blocks to the east and north.

    Below 0, east and north count to the west and south.
    """
    slopes = mine.slopes[number]
    along_x = 0 if east > 0 else 4
    along_y = 2 if north > 0 else 6
    # Both sides of each quotient are multiplied by the rise, so that all numbers stay whole and exact.
    x = abs(east) * mine.wide * slopes[along_x + 1]
    y = abs(north) * mine.wide * slopes[along_y + 1]
    p = k * mine.high * slopes[along_x]
    q = k * mine.high * slopes[along_y]
    if x == 0 or y == 0:
        return x <= p and y <= q
    return p > 0 and q > 0 and (x * q) ** 2 + (y * p) ** 2 <= (p * q) ** 2


def farthest(mine, number, k, side, north):
    """How many blocks out to a side (1: east, -1: west) arcs lead in a row; -1: there are none."""
    out = -1
    while out + 1 < mine.nx and has_arc(mine, number, k, (out + 1) * side, north):
        out += 1
    return out


def span_of_row(mine, number, k, north):
    """How far arcs lead to the west and to the east in the row k levels above and so many to the north.

    Two numbers are enough: if there is an arc to a block of a row, there's one to each that lies less far out.
    """
    key = (number, k, north)
    if key not in mine.spans:
        mine.spans[key] = (farthest(mine, number, k, -1, north), farthest(mine, number, k, 1, north))
    return mine.spans[key]


def find_cone(mine, block):
    """The blocks to which arcs lead from this one, rising."""
    places = places_of(mine, block)
    x = places[0]
    z = places[2]
    found = []
    for level in range(max(0, z - mine.reach), z):
        for row in range(mine.ny):
            span = span_of_row(mine, mine.sets[block], z - level, row - places[1])
            first = block_at(mine, max(0, x - span[0]), row, level)
            last = block_at(mine, min(mine.nx - 1, x + span[1]), row, level)
            found.extend(list(range(first, last + 1)))
    return found


def cone(mine, block):
    """As find_cone, but found once only; the list is not to be changed."""
    if block not in mine.cones:
        mine.cones[block] = find_cone(mine, block)
    return mine.cones[block]


def first_missing(mine, block, gone):
    """The least block of its cone that isn't gone, or None; gone: 1 or 0 for each block."""
    for above in cone(mine, block):
        if gone[above] == 0:
            return above
    return None
