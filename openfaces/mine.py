"""The calls on one object, told and answered as whole numbers."""

from openfaces.arcs import cone
from openfaces.digging import check_lacks
from openfaces.digging import check_order
from openfaces.digging import dig_block
from openfaces.digging import faces
from openfaces.digging import hindrance
from openfaces.digging import undo_block
from openfaces.facts import block_facts
from openfaces.facts import grid_facts
from openfaces.facts import phased
from openfaces.levels import level_counts
from openfaces.levels import narrow_blocks
from openfaces.needs import blocks_after
from openfaces.needs import blocks_before
from openfaces.needs import blocks_direct
from openfaces.needs import closure
from openfaces.phases import check_early
from openfaces.phases import check_outline
from openfaces.phases import pulled
from openfaces.plans import count_orders
from openfaces.plans import plan
from openfaces.rounds import all_rounds
from openfaces.rounds import chain
from openfaces.texts import read_text
from openfaces.writing import mine_text


class Keeper:
    """The object that the calls are made on: it keeps the mine, and has none at first."""

    def __init__(self):
        self.mine = None


def answer_of_reading(reading):
    """What read and look answer."""
    if reading.fault is not None:
        return [0] + list(reading.fault)
    return [0, 0, reading.mine.total, phased(reading.mine)]


def read_call(keeper, values):
    reading = read_text(values)
    if reading.fault is None:
        keeper.mine = reading.mine
    return answer_of_reading(reading)


def look_call(keeper, values):
    return answer_of_reading(read_text(values))


def write_call(keeper, values):
    return [0] + mine_text(keeper.mine)


def dig_call(keeper, values):
    why = hindrance(keeper.mine, values[0], keeper.mine.dug)
    if why > 0:
        return [-why]
    return [0, dig_block(keeper.mine, values[0])]


def undo_call(keeper, values):
    if len(keeper.mine.since) == 0:
        return [-6]
    return [0, undo_block(keeper.mine)]


def cone_call(keeper, values):
    return [0] + cone(keeper.mine, values[0])


def before_call(keeper, values):
    return [0] + blocks_before(keeper.mine, values[0])


def direct_call(keeper, values):
    return [0] + blocks_direct(keeper.mine, values[0])


def after_call(keeper, values):
    return [0] + blocks_after(keeper.mine, values[0])


def open_call(keeper, values):
    return [0] + faces(keeper.mine, keeper.mine.dug)


def order_call(keeper, values):
    return [0] + check_order(keeper.mine, values)


def lacks_call(keeper, values):
    return [0] + check_lacks(keeper.mine, values)


def closure_call(keeper, values):
    return [0] + closure(keeper.mine, values)


def outline_call(keeper, values):
    return [0] + check_outline(keeper.mine)


def early_call(keeper, values):
    return [0] + check_early(keeper.mine)


def pulled_call(keeper, values):
    return [0] + pulled(keeper.mine)


def rounds_call(keeper, values):
    return [0] + all_rounds(keeper.mine)


def chain_call(keeper, values):
    row = chain(keeper.mine, values[0])
    if row is None:
        return [-8]
    return [0] + row


def plan_call(keeper, values):
    return [0] + plan(keeper.mine)


def orders_call(keeper, values):
    return [0, count_orders(keeper.mine, values)]


def level_call(keeper, values):
    return [0] + level_counts(keeper.mine, values[0])


def narrow_call(keeper, values):
    return [0] + narrow_blocks(keeper.mine, values[0], values[1])


def block_call(keeper, values):
    return [0] + block_facts(keeper.mine, values[0])


def grid_call(keeper, values):
    return [0] + grid_facts(keeper.mine)


def nothing_wrong(mine, values):
    """For calls that aren't refused for their blocks or their level ahead of what they tell by themselves."""
    return 0


def wrong_blocks(mine, blocks):
    """-2 if a block isn't of the grid, -7 if one stands there twice, 0 if neither is so."""
    if any([block >= mine.total for block in blocks]):
        return -2
    if len(set(blocks)) < len(blocks):
        return -7
    return 0


def wrong_level(mine, values):
    """-9 if the first of the values is no level of the grid, 0 if it is one."""
    return -9 if values[0] >= mine.nz else 0


# By its number, a call's function, what is handed to it, and how that is looked up in the mine ahead of it.
CALLS = {
    0: (read_call, "text", nothing_wrong),
    1: (look_call, "text", nothing_wrong),
    2: (write_call, "nothing", nothing_wrong),
    3: (dig_call, "block", nothing_wrong),
    4: (undo_call, "nothing", nothing_wrong),
    5: (cone_call, "block", wrong_blocks),
    6: (before_call, "block", wrong_blocks),
    7: (direct_call, "block", wrong_blocks),
    8: (after_call, "block", wrong_blocks),
    9: (open_call, "nothing", nothing_wrong),
    10: (order_call, "blocks", nothing_wrong),
    11: (lacks_call, "blocks", wrong_blocks),
    12: (closure_call, "blocks", wrong_blocks),
    13: (outline_call, "nothing", nothing_wrong),
    14: (early_call, "nothing", nothing_wrong),
    15: (pulled_call, "nothing", nothing_wrong),
    16: (rounds_call, "nothing", nothing_wrong),
    17: (chain_call, "block", wrong_blocks),
    18: (plan_call, "nothing", nothing_wrong),
    19: (orders_call, "few blocks", wrong_blocks),
    20: (level_call, "level", wrong_level),
    21: (narrow_call, "level and width", wrong_level),
    22: (block_call, "block", wrong_blocks),
    23: (grid_call, "nothing", nothing_wrong),
}

# The least and the greatest of each whole number of a call without a row.
PLAIN = {
    "nothing": (),
    "block": ((0, 179),),
    "level": ((0, 4),),
    "level and width": ((0, 4), (1, 6)),
}

# How many numbers a row has at most, and the greatest that each may be; the least is 0.
ROWS = {
    "text": (3000, 255),
    "blocks": (100, 179),
    "few blocks": (8, 179),
}


def out_of_range(kind, values):
    """Whether there are more numbers than this kind allows, or one is out of its range."""
    if kind in ROWS:
        limits = ROWS[kind]
        return len(values) > limits[0] or any([value < 0 or value > limits[1] for value in values])
    return any([value < bounds[0] or value > bounds[1] for value, bounds in zip(values, PLAIN[kind])])


def answer_call(keeper, number, values):
    """The answer of one call: a refusal alone, or 0 and what is told behind it."""
    call = CALLS[number]
    if out_of_range(call[1], values):
        return [-1]
    # Calls with a text are read and look, the only ones that need no mine.
    if call[1] != "text" and keeper.mine is None:
        return [-10]
    wrong = call[2]
    refusal = wrong(keeper.mine, values)
    if refusal < 0:
        return [refusal]
    run = call[0]
    return run(keeper, values)


def answers(calls):
    """The answers of the calls on a new object: of each, how many numbers it has, and these."""
    keeper = Keeper()
    told = []
    at = 0
    while at < len(calls):
        number = calls[at]
        kind = CALLS[number][1]
        first = at + 1
        if kind in ROWS:
            size = calls[first]
            first += 1
        else:
            size = len(PLAIN[kind])
        answer = answer_call(keeper, number, calls[first:first + size])
        told.append(len(answer))
        told.extend(answer)
        at = first + size
    return told
