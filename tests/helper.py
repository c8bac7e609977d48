"""What the tests share: calls as tuples, texts as lines, and a second, slow account of what a mine must answer."""

from fractions import Fraction
from itertools import product

from openfaces.mine import answers

READ, LOOK, WRITE, DIG, UNDO, CONE, BEFORE, DIRECT, AFTER, OPEN, ORDER, LACKS = range(12)
FAR = 1000000000000000000


def text(*lines):
    """The bytes of these lines, with a byte 10 between two of them."""
    return [ord(sign) for sign in "\n".join(lines)]


def told(answer):
    """The lines of an answer of write."""
    assert answer[0] == 0 and answer[-1] == 10
    return "".join([chr(byte) for byte in answer[1:]])[:-1].split("\n")


def coded(calls):
    """The one list of whole numbers for calls such as (READ, [..]), (DIG, 5), (OPEN,)."""
    row = []
    for call in calls:
        for part in call:
            if isinstance(part, list):
                row.append(len(part))
                row.extend(part)
            else:
                row.append(part)
    return row


def run(*calls):
    """The answers of these calls, one list each; what is handed in must be the same afterwards."""
    row = coded(calls)
    kept = list(row)
    numbers = answers(row)
    assert row == kept, "what was handed in has been changed"
    found = []
    at = 0
    while at < len(numbers):
        size = numbers[at]
        found.append(numbers[at + 1:at + 1 + size])
        assert len(found[-1]) == size
        at += 1 + size
    assert len(found) == len(calls)
    return found


def ask(lines, *calls):
    """The answers of these calls behind a read of these lines, which must have no fault."""
    found = run((READ, text(*lines)), *calls)
    assert found[0][:2] == [0, 0], found[0]
    return found[1:]


class Account:
    """A mine told by its parts, and what the document says of it, word by word and without haste."""

    def __init__(self, sizes, slopes, sets, phases, dug):
        self.nx, self.ny, self.nz, self.wide, self.high, self.reach = sizes
        self.sizes = sizes
        self.slopes = slopes
        self.sets = sets
        self.phases = phases
        self.dug = set(dug)
        self.total = self.nx * self.ny * self.nz
        self.cones = [[a for a in range(self.total) if self.arc(b, a)] for b in range(self.total)]
        self.befores = []
        for b in range(self.total):
            self.befores.append(set(self.cones[b]).union(*[self.befores[a] for a in self.cones[b]]))

    def places(self, block):
        return block % self.nx, block // self.nx % self.ny, block // self.nx // self.ny

    def arc(self, b, a):
        bx, by, bz = self.places(b)
        ax, ay, az = self.places(a)
        k = bz - az
        if not 1 <= k <= self.reach:
            return False
        east, north, west, south = [Fraction(*self.slopes[self.sets[b]][i:i + 2]) for i in (0, 2, 4, 6)]
        p = k * self.high * (east if ax > bx else west)
        q = k * self.high * (north if ay > by else south)
        x = abs(ax - bx) * self.wide
        y = abs(ay - by) * self.wide
        if x == 0 and y == 0:
            return True
        if x == 0:
            return y <= q
        if y == 0:
            return x <= p
        return p > 0 and q > 0 and (x / p) ** 2 + (y / q) ** 2 <= 1

    def before(self, b):
        return sorted(self.befores[b])

    def direct(self, b):
        near = self.cones[b]
        return [a for a in near if not any(a in self.befores[other] for other in near)]

    def after(self, b):
        return [c for c in range(self.total) if b in self.befores[c]]

    def why(self, b, dug):
        if b >= self.total:
            return 2
        if b in dug:
            return 3
        if self.phases[b] == 0:
            return 5
        return 0 if set(self.cones[b]) <= dug else 4

    def faces(self):
        return [b for b in range(self.total) if self.why(b, self.dug) == 0]

    def order(self, blocks):
        for place, block in enumerate(blocks):
            why = self.why(block, self.dug | set(blocks[:place]))
            if why:
                return [0, 0, place, why]
        return [0, 1]

    def lacks(self, blocks):
        for block in blocks:
            lacking = [a for a in self.cones[block] if a not in self.dug and a not in blocks]
            if lacking:
                return [0, 0, block, min(lacking)]
        return [0, 1]

    def lines(self):
        """The mine as text, found by looking at each block's neighbours."""
        found = ["grid " + " ".join(map(str, self.sizes))]
        for number, slopes in enumerate(self.slopes):
            found.append(f"slope {number} " + " ".join(map(str, slopes)))
        found += self.runs("set", self.sets)
        found += self.runs("phase", self.phases)
        found += self.runs("dug", [int(b in self.dug) for b in range(self.total)])
        return found

    def runs(self, name, values):
        found = []
        for z, y, first in product(range(self.nz), range(self.ny), range(self.nx)):
            row = values[(z * self.ny + y) * self.nx:][:self.nx]
            if row[first] == 0 or (first > 0 and row[first - 1] == row[first]):
                continue
            last = first
            while last + 1 < self.nx and row[last + 1] == row[first]:
                last += 1
            value = "" if name == "dug" else f"{row[first]} "
            found.append(f"{name} {value}{first} {last} {y} {y} {z} {z}")
        return found


def some_box(dice, sizes):
    """X1 and X2, Y1 and Y2, Z1 and Z2 of the dice's choice."""
    return [place for size in sizes[:3] for place in sorted([dice.randrange(size), dice.randrange(size)])]


def painted(dice, sizes, name, lines):
    """One value for each block from some boxes, whose lines are put behind the others."""
    values = [0] * (sizes[0] * sizes[1] * sizes[2])
    for value in [dice.randint(0, 3) for count in range(dice.randint(0, 6))]:
        box = some_box(dice, sizes)
        lines.append(f"{name} {value} " + " ".join(map(str, box)))
        for x, y, z in product(*[range(box[i], box[i + 1] + 1) for i in (0, 2, 4)]):
            values[(z * sizes[1] + y) * sizes[0] + x] = value
    return values


def some_mine(dice):
    """The lines of a text, and the account of its mine, of the dice's choice; its dug blocks lack none."""
    sizes = [dice.randint(1, 6), dice.randint(1, 6), dice.randint(1, 5),
             dice.choice([1, 3, 3, 10, 10, 10000]), dice.choice([1, 4, 4, 10, 10, 10000]), dice.randint(1, 4)]
    slopes = [[dice.choice([0, 1, 2, 3, 5, 1000]) if i % 2 == 0 else dice.choice([1, 2, 3, 1000])
               for i in range(8)] for number in range(4)]
    lines = ["grid " + " ".join(map(str, sizes)), "rem slopes, sets and phases of the dice's choice"]
    for number in range(4):
        lines.append(f"slope {number} " + " ".join(map(str, slopes[number])))
    sets = painted(dice, sizes, "set", lines)
    phases = painted(dice, sizes, "phase", lines)
    account = Account(sizes, slopes, sets, phases, [])
    for block in dice.sample(range(account.total), min(account.total, 2)):
        if dice.random() < 0.5:
            account.dug |= account.befores[block] | {block}
    lines += account.runs("dug", [int(b in account.dug) for b in range(account.total)])
    return lines, account
