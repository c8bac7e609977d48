"""The calls on one object, told and answered as whole numbers."""

from openfaces.arcs import cone
from openfaces.digging import check_lacks
from openfaces.digging import check_order
from openfaces.digging import dig_block
from openfaces.digging import faces
from openfaces.digging import hindrance
from openfaces.digging import undo_block
from openfaces.needs import blocks_after
from openfaces.needs import blocks_before
from openfaces.needs import blocks_direct
from openfaces.texts import read_text
from openfaces.writing import mine_text


class Keeper:
    """The object that the calls are made on: it keeps the mine, and has none at first."""

    def __init__(self):
        self.mine = None


def answer_of_reading(reading):
    """What read and look answer."""
    if reading.fault is not None:
        return [0] + list(reading.fault)
    mine = reading.mine
    return [0, 0, mine.total, mine.total - mine.phases.count(0)]


def read_call(keeper, values):
    reading = read_text(values)
    if reading.fault is None:
        keeper.mine = reading.mine
    return answer_of_reading(reading)


def look_call(keeper, values):
    return answer_of_reading(read_text(values))


def write_call(keeper, values):
    return [0] + mine_text(keeper.mine)


def dig_call(keeper, values):
    why = hindrance(keeper.mine, values[0], keeper.mine.dug)
    if why > 0:
        return [-why]
    return [0, dig_block(keeper.mine, values[0])]


def undo_call(keeper, values):
    if len(keeper.mine.since) == 0:
        return [-6]
    return [0, undo_block(keeper.mine)]


def cone_call(keeper, values):
    return [0] + cone(keeper.mine, values[0])


def before_call(keeper, values):
    return [0] + blocks_before(keeper.mine, values[0])


def direct_call(keeper, values):
    return [0] + blocks_direct(keeper.mine, values[0])


def after_call(keeper, values):
    return [0] + blocks_after(keeper.mine, values[0])


def open_call(keeper, values):
    return [0] + faces(keeper.mine)


def order_call(keeper, values):
    return [0] + check_order(keeper.mine, values)


def lacks_call(keeper, values):
    return [0] + check_lacks(keeper.mine, values)


# By its number, a call's function, what is handed to it, and whether its blocks are looked up in the grid ahead of it.
CALLS = {
    0: (read_call, "text", False),
    1: (look_call, "text", False),
    2: (write_call, "nothing", False),
    3: (dig_call, "block", False),
    4: (undo_call, "nothing", False),
    5: (cone_call, "block", True),
    6: (before_call, "block", True),
    7: (direct_call, "block", True),
    8: (after_call, "block", True),
    9: (open_call, "nothing", False),
    10: (order_call, "blocks", False),
    11: (lacks_call, "blocks", True),
}

# How many numbers are handed in at most, and how great each may be at most.
LIMITS = {
    "nothing": (0, 0),
    "text": (3000, 255),
    "block": (1, 179),
    "blocks": (100, 179),
}


def out_of_range(kind, values):
    """Whether there are more numbers than this kind allows, or one is out of its range."""
    limits = LIMITS[kind]
    if len(values) > limits[0]:
        return True
    return any([value < 0 or value > limits[1] for value in values])


def refusal_of_blocks(mine, blocks):
    """-2 if a block isn't of the grid, -7 if one stands there twice, 0 if neither is so."""
    if any([block >= mine.total for block in blocks]):
        return -2
    if len(set(blocks)) < len(blocks):
        return -7
    return 0


def answer_call(keeper, number, values):
    """The answer of one call: a refusal alone, or 0 and what is told behind it."""
    call = CALLS[number]
    if out_of_range(call[1], values):
        return [-1]
    if call[1] != "text" and keeper.mine is None:
        return [-10]
    refusal = refusal_of_blocks(keeper.mine, values) if call[2] else 0
    if refusal < 0:
        return [refusal]
    run = call[0]
    return run(keeper, values)


def answers(calls):
    """The answers of the calls on a new object: of each, how many numbers it has, and these."""
    keeper = Keeper()
    told = []
    at = 0
    while at < len(calls):
        number = calls[at]
        kind = CALLS[number][1]
        first = at + 1
        if kind in ("text", "blocks"):
            size = calls[first]
            first += 1
        else:
            size = LIMITS[kind][0]
        answer = answer_call(keeper, number, calls[first:first + size])
        told.append(len(answer))
        told.extend(answer)
        at = first + size
    return told
