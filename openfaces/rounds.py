"""Rounds: how soon a block can be dug if all that is open is dug at once, and what shows it."""

from openfaces.arcs import cone


def round_of(mine, block, told):
    """The round of a block (0: it's dug, -1: it's never dug) from those of all blocks with lesser numbers."""
    if mine.dug[block] == 1:
        return 0
    above = [told[other] for other in cone(mine, block)]
    if mine.phases[block] == 0 or -1 in above:
        return -1
    return max(above, default=0) + 1


def all_rounds(mine):
    """The round of each block, by number."""
    told = []
    for block in range(mine.total):
        # Arcs lead to lesser numbers, so the rounds of its cone are told already.
        told.append(round_of(mine, block, told))
    return told


def chain(mine, block):
    """A row of as many blocks as its round tells, each in the cone of the one before; None if it has no round."""
    told = all_rounds(mine)
    if told[block] < 0:
        return None
    row = [block] if told[block] > 0 else []
    for number in range(told[block] - 1, 0, -1):
        row.append(min([above for above in cone(mine, row[-1]) if told[above] == number]))
    return row
