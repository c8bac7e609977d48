"""The ground: the grid of a mine, and what is told of each of its blocks."""


class Mine:
    """A mine as its text tells it, and what has been dug since.

    sizes: nx, ny, nz, wide, high and the reach, as a grid line tells them.
    """

    def __init__(self, sizes):
        self.nx = sizes[0]
        self.ny = sizes[1]
        self.nz = sizes[2]
        self.wide = sizes[3]
        self.high = sizes[4]
        self.reach = sizes[5]
        self.total = self.nx * self.ny * self.nz
        # Of each set: run and rise to the east, to the north, to the west, to the south.
        self.slopes = [[1] * 8 for number in range(4)]
        self.sets = [0] * self.total
        self.phases = [0] * self.total
        self.dug = [0] * self.total
        self.since = []
        # Cones and their rows are kept once found: slopes and sets don't change behind the last line of a text.
        self.cones = {}
        self.spans = {}


def block_at(mine, x, y, z):
    """The number of the block at these places."""
    return (z * mine.ny + y) * mine.nx + x


def places_of(mine, block):
    """The places x, y and z of a block."""
    return [block % mine.nx, block // mine.nx % mine.ny, block // (mine.nx * mine.ny)]


def blocks_within(mine, box):
    """The numbers of the blocks from X1 to X2, Y1 to Y2, Z1 to Z2; box: these six."""
    found = []
    for z in range(box[4], box[5] + 1):
        for y in range(box[2], box[3] + 1):
            first = block_at(mine, box[0], y, z)
            found.extend(list(range(first, first + box[1] - box[0] + 1)))
    return found
