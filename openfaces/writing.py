"""A mine as text."""

from openfaces.ground import block_at


def line_of(name, numbers):
    """A line with this name and these numbers."""
    return " ".join([name] + [str(number) for number in numbers]) + "\n"


def runs_of(row):
    """The greatest runs of one value that isn't 0 in a row: of each the value, its first and its last place."""
    runs = []
    for x, value in enumerate(row):
        if value == 0:
            continue
        if x > 0 and row[x - 1] == value:
            runs[-1][2] = x
        else:
            runs.append([value, x, x])
    return runs


def lines_of(mine, name, values):
    """The lines with this name for a list of one value for each block, level by level and row by row."""
    lines = []
    for z in range(mine.nz):
        for y in range(mine.ny):
            first = block_at(mine, 0, y, z)
            for run in runs_of(values[first:first + mine.nx]):
                # A dug line tells no value: that its blocks are dug is all there is to say.
                told = run[1:] if name == "dug" else run
                lines.append(line_of(name, told + [y, y, z, z]))
    return lines


def mine_text(mine):
    """The mine's text, as a list of bytes."""
    lines = [line_of("grid", [mine.nx, mine.ny, mine.nz, mine.wide, mine.high, mine.reach])]
    for number, slopes in enumerate(mine.slopes):
        lines.append(line_of("slope", [number] + slopes))
    lines.extend(lines_of(mine, "set", mine.sets))
    lines.extend(lines_of(mine, "phase", mine.phases))
    lines.extend(lines_of(mine, "dug", mine.dug))
    return [ord(sign) for sign in "".join(lines)]
