"""Calls 10 and 11: order and lacks; promise 2."""

import unittest
from random import Random

from tests.helper import DIG, LACKS, OPEN, ORDER, WRITE, ask, some_mine

ROW = ["grid 3 1 2 10 10 1", "phase 1 0 2 0 0 0 1"]
HUNDRED = ["grid 6 6 5 1 1 1", "slope 0 0 1 0 1 0 1 0 1", "phase 1 0 5 0 5 0 4"]


class Order(unittest.TestCase):
    def test_good_orders(self):
        found = ask(ROW, (ORDER, [0, 1, 2, 4]), (ORDER, [1, 0, 3]), (ORDER, [2, 1, 5, 0, 3, 4]), (ORDER, [1]))
        self.assertEqual(found, [[0, 1]] * 4)

    def test_an_empty_list(self):
        self.assertEqual(ask(ROW, (ORDER, [])), [[0, 1]])

    def test_no_such_block(self):
        found = ask(ROW, (ORDER, [6]), (ORDER, [0, 179, 1]), (ORDER, [0, 6, 6]))
        self.assertEqual(found, [[0, 0, 0, 2], [0, 0, 1, 2], [0, 0, 1, 2]])

    def test_dug_already(self):
        found = ask(ROW + ["dug 1 1 0 0 0 0"], (DIG, 0), (ORDER, [1]), (ORDER, [2, 0]), (ORDER, [3, 2, 4]))
        self.assertEqual(found[1:], [[0, 0, 0, 3], [0, 0, 1, 3], [0, 1]])

    def test_told_twice(self):
        found = ask(ROW, (ORDER, [0, 1, 0]), (ORDER, [2, 2, 0]), (ORDER, [0, 0, 6]))
        self.assertEqual(found, [[0, 0, 2, 3], [0, 0, 1, 3], [0, 0, 1, 3]])

    def test_not_free_then(self):
        found = ask(ROW, (ORDER, [4]), (ORDER, [0, 1, 4, 2]), (ORDER, [3, 0, 1]), (ORDER, [0, 3, 3]))
        self.assertEqual(found, [[0, 0, 0, 4], [0, 0, 2, 4], [0, 0, 0, 4], [0, 0, 1, 4]])

    def test_phase_0(self):
        lines = ROW + ["phase 0 1 1 0 0 0 1"]
        found = ask(lines, (ORDER, [0, 1]), (ORDER, [4]), (ORDER, [0, 3]), (ORDER, [0, 1, 1]))
        self.assertEqual(found, [[0, 0, 1, 5], [0, 0, 0, 5], [0, 0, 1, 4], [0, 0, 1, 5]])

    def test_nothing_is_dug(self):
        found = ask(ROW, (WRITE,), (ORDER, [0, 1, 2, 4]), (ORDER, [0, 1, 0]), (WRITE,), (OPEN,), (DIG, 0))
        self.assertEqual(found[0], found[3])
        self.assertEqual(found[4:], [[0, 0, 1, 2], [0, 1]])

    def test_a_list_of_100_and_of_101(self):
        found = ask(HUNDRED, (ORDER, list(range(100))), (ORDER, list(range(101))), (ORDER, list(range(99, -1, -1))),
                    (ORDER, [0] * 3000))
        self.assertEqual(found, [[0, 1], [-1], [0, 0, 0, 4], [-1]])

    def test_the_last_of_100_can_be_told(self):
        self.assertEqual(ask(HUNDRED, (ORDER, list(range(99)) + [0])), [[0, 0, 99, 3]])


class Lacks(unittest.TestCase):
    def test_none_lacking(self):
        found = ask(ROW, (LACKS, [0]), (LACKS, [4, 2, 1, 0]), (LACKS, [0, 1, 2, 3, 4, 5]), (LACKS, [0, 1, 3]))
        self.assertEqual(found, [[0, 1]] * 4)

    def test_an_empty_list(self):
        self.assertEqual(ask(ROW, (LACKS, [])), [[0, 1]])

    def test_the_first_block_and_the_least_that_it_lacks(self):
        found = ask(ROW, (LACKS, [4]), (LACKS, [5, 3]), (LACKS, [3, 5]), (LACKS, [0, 4, 3]), (LACKS, [0, 1, 5, 3]))
        self.assertEqual(found, [[0, 0, 4, 0], [0, 0, 5, 1], [0, 0, 3, 0], [0, 0, 4, 1], [0, 0, 5, 2]])

    def test_what_is_dug_is_not_lacking(self):
        found = ask(ROW + ["dug 0 0 0 0 0 0"], (LACKS, [4]), (DIG, 1), (LACKS, [4]), (LACKS, [3, 4, 0]), (DIG, 2),
                    (LACKS, [4]))
        self.assertEqual(found, [[0, 0, 4, 1], [0, 1], [0, 0, 4, 2], [0, 0, 4, 2], [0, 2], [0, 1]])

    def test_phases_do_not_matter(self):
        self.assertEqual(ask(["grid 3 1 2 10 10 1"], (LACKS, [3, 0, 1]), (LACKS, [3, 0])), [[0, 1], [0, 0, 3, 1]])

    def test_only_its_cone_is_looked_at(self):
        # Block 12 needs blocks of level 0 too, but has only three of level 1 in its cone.
        grid = "grid 5 1 3 10 10 "
        self.assertEqual(ask([grid + "1"], (LACKS, [12, 6, 7, 8]), (LACKS, [12, 6, 8])),
                         [[0, 0, 6, 0], [0, 0, 12, 7]])
        self.assertEqual(ask([grid + "2"], (LACKS, [12, 6, 7, 8])), [[0, 0, 12, 0]])

    def test_nothing_changes(self):
        found = ask(ROW, (WRITE,), (LACKS, [0, 1, 2, 4]), (LACKS, [4]), (WRITE,), (LACKS, [4]))
        self.assertEqual(found[0], found[3])
        self.assertEqual(found[4], [0, 0, 4, 0])

    def test_a_list_of_100_and_of_101(self):
        found = ask(HUNDRED, (LACKS, list(range(100))), (LACKS, list(range(101))), (LACKS, list(range(99, -1, -1))),
                    (LACKS, list(range(99)) + [179]))
        self.assertEqual(found, [[0, 1], [-1], [0, 1], [0, 0, 179, 143]])


class AgainstTheSecondAccount(unittest.TestCase):
    def some_list(self, dice, account):
        """Blocks of the dice's choice, mostly in an order that can nearly be dug."""
        blocks = dice.sample(range(account.total), dice.randint(0, min(account.total, 12)))
        if dice.random() < 0.7:
            for block in list(blocks[:2]):
                blocks += [a for a in account.before(block) if a not in blocks and dice.random() < 0.97]
            blocks = sorted(blocks)
        return blocks[:100]

    def test_orders_and_lists(self):
        dice = Random(14)
        for count in range(100):
            lines, account = some_mine(dice)
            account.phases = [phase or (count % 2) for phase in account.phases]
            lines = account.lines()
            lists = [self.some_list(dice, account) for number in range(15)]
            wild = [[dice.randrange(180) for step in range(dice.randint(0, 9))] for number in range(5)]
            if sum(map(len, lines)) + len(lines) > 3000:
                continue
            self.assertEqual(ask(lines, *[(ORDER, blocks) for blocks in lists + wild]),
                             [account.order(blocks) for blocks in lists + wild], lines)
            self.assertEqual(ask(lines, *[(LACKS, blocks) for blocks in lists]),
                             [account.lacks(blocks) for blocks in lists], lines)


class Promise2(unittest.TestCase):
    def test_an_order_told_good_can_be_dug_and_its_beginnings_lack_nothing(self):
        dice = Random(15)
        good = 0
        for count in range(120):
            lines, account = some_mine(dice)
            blocks = [b for b in range(account.total) if account.phases[b] and b not in account.dug]
            gone = set(account.dug)
            order = []
            for block in dice.sample(blocks, len(blocks)) + dice.sample(blocks, len(blocks)):
                if account.why(block, gone) == 0 and len(order) < 40:
                    order.append(block)
                    gone.add(block)
            beginnings = [(LACKS, order[:size]) for size in range(len(order) + 1)]
            found = ask(lines, (ORDER, order), *beginnings, *[(DIG, block) for block in order])
            self.assertEqual(found, [[0, 1]] * (len(order) + 2) + [[0, size + 1] for size in range(len(order))], lines)
            good += len(order) > 3
        self.assertGreater(good, 30)

    def test_an_order_that_is_not_good_stops_where_it_is_told(self):
        dice = Random(16)
        for count in range(120):
            lines, account = some_mine(dice)
            blocks = dice.choices(range(180), k=3) + dice.sample(range(account.total), min(account.total, 5))
            dice.shuffle(blocks)
            blocks = account.faces()[:4] + blocks
            found = ask(lines, (ORDER, blocks), *[(DIG, block) for block in blocks])
            digs = [answer[0] for answer in found[1:]]
            if found[0][1] == 1:
                self.assertEqual(set(digs), {0})
            else:
                place, why = found[0][2:]
                self.assertEqual(digs[:place + 1], [0] * place + [-why])


if __name__ == "__main__":
    unittest.main()
