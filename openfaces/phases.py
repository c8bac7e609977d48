"""Phases: whether what is to be dug can be dug, and in the phases told."""

from openfaces.arcs import cone
from openfaces.digging import check_lacks

# Greater than every phase: no block with a phase needs this one.
NO_PHASE = 4


def check_outline(mine):
    """As check_lacks, for all blocks that are to be dug."""
    return check_lacks(mine, [block for block in range(mine.total) if mine.phases[block] > 0])


def first_later(mine, block):
    """The least block of its cone that isn't dug and is dug never or in a later phase, or None."""
    for above in cone(mine, block):
        never = mine.phases[above] == 0
        if mine.dug[above] == 0 and (never or mine.phases[above] > mine.phases[block]):
            return above
    return None


def check_early(mine):
    """1 if no block that's still to be dug comes too early; else 0, the least that does, and its first_later."""
    for block in range(mine.total):
        if mine.phases[block] > 0 and mine.dug[block] == 0:
            later = first_later(mine, block)
            if later is not None:
                return [0, block, later]
    return [1]


def least_phases(mine):
    """For each block the least phase that isn't 0 of the blocks that need it; NO_PHASE if there's none."""
    least = [NO_PHASE] * mine.total
    # Arcs lead to lesser numbers: so all that need a block have handed on their phases before its turn comes.
    for block in range(mine.total - 1, -1, -1):
        handed = least[block]
        if mine.phases[block] > 0:
            handed = min(handed, mine.phases[block])
        for above in cone(mine, block):
            least[above] = min(least[above], handed)
    return least


def pulled(mine):
    """Rising, each block whose phase is more than the least phase of those that need it, and that least phase."""
    found = []
    for block, least in enumerate(least_phases(mine)):
        # Phase 0 is never more, since no least phase is 0.
        if mine.phases[block] > least:
            found.extend([block, least])
    return found
