"""What the tests share: calls as tuples, texts as lines, and a second, slow account of what a mine must answer."""

from fractions import Fraction
from itertools import combinations, permutations, product

from openfaces.mine import answers

READ, LOOK, WRITE, DIG, UNDO, CONE, BEFORE, DIRECT, AFTER, OPEN, ORDER, LACKS = range(12)
CLOSURE, OUTLINE, EARLY, PULLED, ROUNDS, CHAIN, PLAN, ORDERS, LEVEL, NARROW, BLOCK, GRID = range(12, 24)
FAR = 1000000000000000000


def text(*lines):
    """The bytes of these lines, with a byte 10 between two of them."""
    return [ord(sign) for sign in "\n".join(lines)]


def told(answer):
    """The lines of an answer of write."""
    assert answer[0] == 0 and answer[-1] == 10
    return "".join([chr(byte) for byte in answer[1:]])[:-1].split("\n")


def coded(calls):
    """The one list of whole numbers for calls such as (READ, [..]), (DIG, 5), (OPEN,)."""
    row = []
    for call in calls:
        for part in call:
            if isinstance(part, list):
                row.append(len(part))
                row.extend(part)
            else:
                row.append(part)
    return row


def run(*calls):
    """The answers of these calls, one list each; what is handed in must be the same afterwards."""
    row = coded(calls)
    kept = list(row)
    numbers = answers(row)
    assert row == kept, "what was handed in has been changed"
    found = []
    at = 0
    while at < len(numbers):
        size = numbers[at]
        found.append(numbers[at + 1:at + 1 + size])
        assert len(found[-1]) == size
        at += 1 + size
    assert len(found) == len(calls)
    return found


def ask(lines, *calls):
    """The answers of these calls behind a read of these lines, which must have no fault."""
    found = run((READ, text(*lines)), *calls)
    assert found[0][:2] == [0, 0], found[0]
    return found[1:]


class Account:
    """A mine told by its parts, and what the document says of it, word by word and without haste."""

    def __init__(self, sizes, slopes, sets, phases, dug):
        self.nx, self.ny, self.nz, self.wide, self.high, self.reach = sizes
        self.sizes = sizes
        self.slopes = slopes
        self.sets = sets
        self.phases = phases
        self.dug = set(dug)
        self.since = []
        self.total = self.nx * self.ny * self.nz
        self.cones = [[a for a in range(self.total) if self.arc(b, a)] for b in range(self.total)]
        self.befores = []
        for b in range(self.total):
            self.befores.append(set(self.cones[b]).union(*[self.befores[a] for a in self.cones[b]]))

    def places(self, block):
        return block % self.nx, block // self.nx % self.ny, block // self.nx // self.ny

    def arc(self, b, a):
        bx, by, bz = self.places(b)
        ax, ay, az = self.places(a)
        k = bz - az
        if not 1 <= k <= self.reach:
            return False
        east, north, west, south = [Fraction(*self.slopes[self.sets[b]][i:i + 2]) for i in (0, 2, 4, 6)]
        p = k * self.high * (east if ax > bx else west)
        q = k * self.high * (north if ay > by else south)
        x = abs(ax - bx) * self.wide
        y = abs(ay - by) * self.wide
        if x == 0 and y == 0:
            return True
        if x == 0:
            return y <= q
        if y == 0:
            return x <= p
        return p > 0 and q > 0 and (x / p) ** 2 + (y / q) ** 2 <= 1

    def before(self, b):
        return sorted(self.befores[b])

    def direct(self, b):
        near = self.cones[b]
        return [a for a in near if not any(a in self.befores[other] for other in near)]

    def after(self, b):
        return [c for c in range(self.total) if b in self.befores[c]]

    def why(self, b, dug):
        if b >= self.total:
            return 2
        if b in dug:
            return 3
        if self.phases[b] == 0:
            return 5
        return 0 if set(self.cones[b]) <= dug else 4

    def faces(self):
        return [b for b in range(self.total) if self.why(b, self.dug) == 0]

    def order(self, blocks):
        for place, block in enumerate(blocks):
            why = self.why(block, self.dug | set(blocks[:place]))
            if why:
                return [0, 0, place, why]
        return [0, 1]

    def lacks(self, blocks):
        for block in blocks:
            lacking = [a for a in self.cones[block] if a not in self.dug and a not in blocks]
            if lacking:
                return [0, 0, block, min(lacking)]
        return [0, 1]

    def closure(self, blocks):
        held = {b for b in blocks if b not in self.dug}
        while True:
            lacking = {a for b in held for a in self.cones[b] if a not in self.dug and a not in held}
            if not lacking:
                return sorted(held)
            held |= lacking

    def outline(self):
        return self.lacks([b for b in range(self.total) if self.phases[b]])

    def early(self):
        left = [b for b in range(self.total) if b not in self.dug]
        for b in left:
            late = [a for a in left if a in self.cones[b] and (self.phases[a] == 0 or self.phases[a] > self.phases[b])]
            if self.phases[b] and late:
                return [0, 0, b, min(late)]
        return [0, 1]

    def pulled(self):
        found = []
        for b in range(self.total):
            phases = [self.phases[c] for c in self.after(b) if self.phases[c]]
            if self.phases[b] and phases and self.phases[b] > min(phases):
                found += [b, min(phases)]
        return found

    def rounds(self):
        gone = set(self.dug)
        found = [0 if b in gone else -1 for b in range(self.total)]
        number = 0
        while True:
            number += 1
            ready = [b for b in range(self.total) if self.why(b, gone) == 0]
            if not ready:
                return found
            for b in ready:
                found[b] = number
            gone |= set(ready)

    def chain(self, b):
        rounds = self.rounds()
        if rounds[b] < 1:
            return [0] if rounds[b] == 0 else [-8]
        found = [b]
        while rounds[found[-1]] > 1:
            found.append(min(a for a in self.cones[found[-1]] if rounds[a] == rounds[found[-1]] - 1))
        return [0] + found

    def plan(self):
        gone = set(self.dug)
        found = []
        while True:
            ready = sorted((self.phases[b], b) for b in range(self.total) if self.why(b, gone) == 0)
            if not ready:
                return found
            found.append(ready[0][1])
            gone.add(ready[0][1])

    def orders(self, blocks):
        return sum(self.order(list(order)) == [0, 1] for order in permutations(blocks))

    def on_level(self, z):
        return [b for b in range(self.total) if self.places(b)[2] == z]

    def level(self, z):
        if z >= self.nz:
            return [-9]
        here = self.on_level(z)
        walls = 0
        for b, c in combinations(here, 2):
            apart = sum(abs(i - j) for i, j in zip(self.places(b), self.places(c)))
            walls += apart == 1 and (b in self.dug) != (c in self.dug)
        return [0, len(self.dug & set(here)), walls, len(set(self.faces()) & set(here))]

    def narrow(self, z, w):
        if z >= self.nz:
            return [-9]
        floor = {self.places(b)[:2]: b for b in self.on_level(z) if b in self.dug or self.phases[b]}
        found = [0]
        for x, y in floor:
            corners = product(range(x - w + 1, x + 1), range(y - w + 1, y + 1))
            squares = [[(i + left, j + low) for i in range(w) for j in range(w)] for left, low in corners]
            if not any(all(place in floor for place in square) for square in squares):
                found.append(floor[x, y])
        return found

    def block(self, b):
        return [0, *self.places(b), self.sets[b], self.phases[b], int(b in self.dug), int(b in self.faces())]

    def grid(self):
        since = len(self.since)
        return [0, *self.sizes, len(self.dug) - since, since, len([phase for phase in self.phases if phase])]

    def dig(self, b):
        self.since.append(b)
        self.dug.add(b)

    def undo(self):
        self.dug.remove(self.since.pop())

    def lines(self):
        """The mine as text, found by looking at each block's neighbours."""
        found = ["grid " + " ".join(map(str, self.sizes))]
        for number, slopes in enumerate(self.slopes):
            found.append(f"slope {number} " + " ".join(map(str, slopes)))
        found += self.runs("set", self.sets)
        found += self.runs("phase", self.phases)
        found += self.runs("dug", [int(b in self.dug) for b in range(self.total)])
        return found

    def runs(self, name, values):
        found = []
        for z, y, first in product(range(self.nz), range(self.ny), range(self.nx)):
            row = values[(z * self.ny + y) * self.nx:][:self.nx]
            if row[first] == 0 or (first > 0 and row[first - 1] == row[first]):
                continue
            last = first
            while last + 1 < self.nx and row[last + 1] == row[first]:
                last += 1
            value = "" if name == "dug" else f"{row[first]} "
            found.append(f"{name} {value}{first} {last} {y} {y} {z} {z}")
        return found


def some_box(dice, sizes):
    """X1 and X2, Y1 and Y2, Z1 and Z2 of the dice's choice."""
    return [place for size in sizes[:3] for place in sorted([dice.randrange(size), dice.randrange(size)])]


def painted(dice, sizes, name, lines):
    """One value for each block from some boxes, whose lines are put behind the others."""
    values = [0] * (sizes[0] * sizes[1] * sizes[2])
    for value in [dice.randint(0, 3) for count in range(dice.randint(0, 6))]:
        box = some_box(dice, sizes)
        lines.append(f"{name} {value} " + " ".join(map(str, box)))
        for x, y, z in product(*[range(box[i], box[i + 1] + 1) for i in (0, 2, 4)]):
            values[(z * sizes[1] + y) * sizes[0] + x] = value
    return values


def some_mine(dice):
    """The lines of a text, and the account of its mine, of the dice's choice; its dug blocks lack none."""
    sizes = [dice.randint(1, 6), dice.randint(1, 6), dice.randint(1, 5),
             dice.choice([1, 3, 3, 10, 10, 10000]), dice.choice([1, 4, 4, 10, 10, 10000]), dice.randint(1, 4)]
    slopes = [[dice.choice([0, 1, 2, 3, 5, 1000]) if i % 2 == 0 else dice.choice([1, 2, 3, 1000])
               for i in range(8)] for number in range(4)]
    lines = ["grid " + " ".join(map(str, sizes)), "rem slopes, sets and phases of the dice's choice"]
    for number in range(4):
        lines.append(f"slope {number} " + " ".join(map(str, slopes[number])))
    sets = painted(dice, sizes, "set", lines)
    phases = painted(dice, sizes, "phase", lines)
    account = Account(sizes, slopes, sets, phases, [])
    for block in dice.sample(range(account.total), min(account.total, 2)):
        if dice.random() < 0.5:
            account.dug |= account.befores[block] | {block}
    lines += account.runs("dug", [int(b in account.dug) for b in range(account.total)])
    return lines, account


def some_steps(dice, account, size):
    """Digs and undos of the dice's choice that aren't refused, done in the account too."""
    calls = []
    for step in range(size):
        faces = account.faces()
        if account.since and (not faces or dice.random() < 0.25):
            account.undo()
            calls.append((UNDO,))
        elif faces:
            account.dig(dice.choice(faces))
            calls.append((DIG, account.since[-1]))
    return calls


def some_worked_mine(dice):
    """As some_mine, but mostly with more to be dug; the calls that dig some since the text; the account behind them."""
    while True:
        lines, account = some_mine(dice)
        choices = dice.choice([[0], [1], [2], [1, 2, 3], [0, 1, 2, 3]])
        account.phases = [phase or dice.choice(choices) for phase in account.phases]
        lines = account.lines()
        if len(text(*lines)) <= 3000:
            return lines, some_steps(dice, account, dice.randint(0, 40)), account
