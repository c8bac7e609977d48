"""What is told of a block, and of the mine as a whole."""

from openfaces.digging import hindrance
from openfaces.ground import places_of


def phased(mine):
    """How many blocks have a phase that isn't 0."""
    return mine.total - mine.phases.count(0)


def block_facts(mine, block):
    """Its x, y and z, its set, its phase, whether it's dug and whether it's open."""
    ready = 1 if hindrance(mine, block, mine.dug) == 0 else 0
    return places_of(mine, block) + [mine.sets[block], mine.phases[block], mine.dug[block], ready]


def grid_facts(mine):
    """The grid's numbers; how many blocks were dug by the text, how many since, and how many have a phase."""
    sizes = [mine.nx, mine.ny, mine.nz, mine.wide, mine.high, mine.reach]
    since = len(mine.since)
    return sizes + [sum(mine.dug) - since, since, phased(mine)]
