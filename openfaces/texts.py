"""Texts that tell a mine: they are read line by line, and the first fault ends them."""

from openfaces.arcs import first_missing
from openfaces.ground import Mine
from openfaces.ground import blocks_within

NAMES = ("rem", "grid", "slope", "set", "phase", "dug")


class Reading:
    """What has come of a text: the mine so far, and the fault, if any: its kind and the two numbers behind it."""

    def __init__(self):
        self.mine = None
        self.fault = None


def cut(row, mark):
    """The pieces of a row of bytes between the marks: one more than there are marks."""
    pieces = [[]]
    for byte in row:
        if byte == mark:
            pieces.append([])
        else:
            pieces[-1].append(byte)
    return pieces


def words_of(line):
    """The words of a line of bytes, each a list of bytes."""
    return [word for word in cut(line, 32) if len(word) > 0]


def name_of(word):
    """Which of the six names a word of bytes is; an empty text if it's none."""
    for name in NAMES:
        if word == [ord(sign) for sign in name]:
            return name
    return ""


def number_of(word):
    """The number that a word of bytes tells; -1, which is out of every range, if it isn't a number."""
    if len(word) > 6 or (word[0] == 48 and len(word) > 1):
        return -1
    value = 0
    for byte in word:
        if byte < 48 or byte > 57:
            return -1
        value = value * 10 + byte - 48
    return value


def ranges_of(name, mine):
    """The least and the greatest of each number that stands behind this name."""
    if name == "grid":
        return [(1, 6), (1, 6), (1, 5), (1, 10000), (1, 10000), (1, 4)]
    if name == "slope":
        return [(0, 3)] + [(0, 1000), (1, 1000)] * 4
    box = [(0, mine.nx - 1)] * 2 + [(0, mine.ny - 1)] * 2 + [(0, mine.nz - 1)] * 2
    if name == "dug":
        return box
    return [(0, 3)] + box


def fault_of_range(values, ranges):
    """The fault of the first number that's not within its range, or None."""
    for place, bounds in enumerate(ranges):
        if values[place] < bounds[0] or values[place] > bounds[1]:
            return (3, place + 2)
    return None


def fault_of_box(values):
    """The fault of the first of X2, Y2, Z2 that is less than X1, Y1, Z1, or None."""
    first = len(values) - 6
    for place in (first + 1, first + 3, first + 5):
        if values[place] < values[place - 1]:
            return (6, place + 2)
    return None


def fault_of_line(name, values, mine):
    """The kind and the word of the fault of a line with this name and these numbers behind it, or None."""
    if name == "":
        return (1, 1)
    if name == "grid" and mine is not None:
        return (5, 1)
    if name != "grid" and mine is None:
        return (4, 1)
    ranges = ranges_of(name, mine)
    if len(values) != len(ranges):
        return (2, 0)
    fault = fault_of_range(values, ranges)
    if fault is None and name in ("set", "phase", "dug"):
        fault = fault_of_box(values)
    return fault


def paint(mine, row, value, box):
    """Give all blocks within the box this value in a row of one number for each block."""
    for block in blocks_within(mine, box):
        row[block] = value


def take_line(reading, name, values):
    """Do what a line without a fault says."""
    mine = reading.mine
    if name == "grid":
        reading.mine = Mine(values)
    elif name == "slope":
        mine.slopes[values[0]] = values[1:]
    elif name == "set":
        paint(mine, mine.sets, values[0], values[1:])
    elif name == "phase":
        paint(mine, mine.phases, values[0], values[1:])
    else:
        paint(mine, mine.dug, 1, values)


def read_line(reading, line, place):
    """Take a line of bytes, the one at this place (from 1), or keep its fault."""
    words = words_of(line)
    if len(words) == 0:
        return
    name = name_of(words[0])
    if name == "rem":
        return
    values = [number_of(word) for word in words[1:]]
    fault = fault_of_line(name, values, reading.mine)
    if fault is None:
        take_line(reading, name, values)
    else:
        reading.fault = (fault[0], place, fault[1])


def fault_of_whole(mine):
    """The fault that shows behind the last line, or None."""
    if mine is None:
        return (7, 0, 0)
    for block in range(mine.total):
        if mine.dug[block] == 1:
            missing = first_missing(mine, block, mine.dug)
            if missing is not None:
                return (8, block, missing)
    return None


def read_text(text):
    """Read a text, a list of bytes, by itself: a Reading; its mine counts only if there's no fault."""
    reading = Reading()
    for place, line in enumerate(cut(text, 10), start=1):
        read_line(reading, line, place)
        if reading.fault is not None:
            return reading
    reading.fault = fault_of_whole(reading.mine)
    return reading
