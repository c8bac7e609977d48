"""Calls 18 and 19: plan and orders; promises 1 to 3 of them."""

import unittest
from itertools import permutations
from math import factorial
from random import Random

from tests.helper import (BEFORE, DIG, LACKS, OPEN, ORDER, ORDERS, PLAN, READ, ROUNDS, UNDO, WRITE, ask, run,
                          some_worked_mine, text, told)

ROW = ["grid 3 1 2 10 10 1", "phase 1 0 2 0 0 0 1"]
# Arcs lead to the east alone: of block 8 to 0, 1, 2 and 4, 5, of block 11 to 3 and 7.
STAIRS = ["grid 4 1 3 10 10 2", "slope 0 1 1 0 1 0 1 0 1", "phase 1 0 3 0 0 0 2"]
FLAT = ["grid 6 6 5 1 1 1", "slope 0 0 1 0 1 0 1 0 1", "phase 1 0 5 0 5 0 4"]


class Plan(unittest.TestCase):
    def test_by_number_within_a_phase(self):
        self.assertEqual(ask(ROW, (PLAN,)), [[0, 0, 1, 2, 3, 4, 5]])
        self.assertEqual(ask(STAIRS, (PLAN,)), [[0] + list(range(12))])

    def test_several_phases_open_at_once(self):
        # 5 comes as soon as 1 and 2 are gone, 3 as soon as 0 is, although its phase is less than that of 0.
        lines = ROW + ["phase 2 0 0 0 0 0 0", "phase 3 1 1 0 0 1 1"]
        self.assertEqual(ask(lines, (PLAN,)), [[0, 1, 2, 5, 0, 3, 4]])

    def test_the_least_phase_ahead_of_the_least_number(self):
        lines = ["grid 4 1 1 1 1 1", "phase 3 0 0 0 0 0 0", "phase 2 1 1 0 0 0 0", "phase 1 2 3 0 0 0 0"]
        self.assertEqual(ask(lines, (PLAN,)), [[0, 2, 3, 1, 0]])

    def test_phase_0_is_left_out(self):
        self.assertEqual(ask(ROW + ["phase 0 0 0 0 0 0 0"], (PLAN,)), [[0, 1, 2, 5]])
        self.assertEqual(ask(ROW + ["phase 0 1 1 0 0 0 0"], (PLAN,)), [[0, 0, 2]])

    def test_nothing_to_be_dug_and_all_dug(self):
        self.assertEqual(ask(ROW[:1], (PLAN,)), [[0]])
        self.assertEqual(ask(ROW + ["dug 0 2 0 0 0 1"], (PLAN,)), [[0]])
        self.assertEqual(ask(ROW[:1] + ["phase 1 0 2 0 0 1 1"], (PLAN,)), [[0]])

    def test_from_now_on(self):
        found = ask(STAIRS + ["dug 3 3 0 0 0 1"], (DIG, 11), (DIG, 1), (PLAN,), (UNDO,), (UNDO,), (PLAN,))
        self.assertEqual(found[2::3], [[0, 0, 2, 4, 5, 6, 8, 9, 10], [0, 0, 1, 2, 4, 5, 6, 8, 9, 10, 11]])

    def test_nothing_is_dug(self):
        found = ask(ROW, (DIG, 1), (WRITE,), (PLAN,), (WRITE,), (PLAN,), (OPEN,), (UNDO,), (UNDO,))
        self.assertEqual(found[1], found[3])
        self.assertEqual(found[2], found[4])
        self.assertEqual(found[5:], [[0, 0, 2], [0, 1], [-6]])

    def test_the_least_and_the_greatest_mine(self):
        self.assertEqual(ask(["grid 1 1 1 1 1 1", "phase 3 0 0 0 0 0 0"], (PLAN,)), [[0, 0]])
        lines = ["grid 6 6 5 1 10000 4", "slope 0 1000 1 1000 1 1000 1 1000 1", "phase 1 0 5 0 5 0 4"]
        self.assertEqual(ask(lines, (PLAN,)), [[0] + list(range(180))])
        self.assertEqual(ask(lines + ["phase 2 0 2 0 5 0 4"], (PLAN,))[0][1:5], [3, 4, 5, 9])

    def test_without_a_mine(self):
        self.assertEqual(run((PLAN,)), [[-10]])

    def test_against_the_second_account(self):
        dice = Random(27)
        longest = 0
        for count in range(100):
            lines, calls, account = some_worked_mine(dice)
            found = ask(lines, *calls, (PLAN,))[-1]
            self.assertEqual(found, [0] + account.plan(), lines)
            longest = max(longest, len(found))
        self.assertGreater(longest, 60)

    def test_promises_1_and_2(self):
        dice = Random(28)
        for count in range(40):
            lines, calls, account = some_worked_mine(dice)
            plan = ask(lines, *calls, (PLAN,))[-1][1:]
            found = ask(lines, *calls, *[(DIG, block) for block in plan], (OPEN,))[len(calls):]
            self.assertEqual(found, [[0, len(account.since) + place + 1] for place in range(len(plan))] + [[0]])
            found = ask(lines, *calls, (ORDER, plan[:100]), *[(LACKS, plan[:size]) for size in range(0, 100, 7)])
            self.assertEqual(found[len(calls):], [[0, 1]] * 16)
            befores = ask(lines, *[(BEFORE, block) for block in plan])
            for place, before in enumerate(befores):
                self.assertLessEqual(set(before[1:]), account.dug | set(plan[:place]))


class Orders(unittest.TestCase):
    def test_an_empty_list(self):
        self.assertEqual(ask(ROW, (ORDERS, [])), [[0, 1]])
        self.assertEqual(ask(["grid 1 1 1 1 1 1"], (ORDERS, [])), [[0, 1]])

    def test_one_block(self):
        self.assertEqual(ask(ROW, (ORDERS, [0]), (ORDERS, [2]), (ORDERS, [4])), [[0, 1], [0, 1], [0, 0]])

    def test_many_orders(self):
        found = ask(ROW, (ORDERS, [0, 1]), (ORDERS, [2, 1, 0]), (ORDERS, [3, 1, 0]), (ORDERS, [4, 0, 1, 2]),
                    (ORDERS, [0, 1, 2, 3]))
        # With 3 behind 0 and 1, and 2 anywhere: a third of all 24.
        self.assertEqual(found, [[0, 2], [0, 6], [0, 2], [0, 6], [0, 8]])

    def test_one_order_alone(self):
        lines = ["grid 1 1 5 1 1 1", "phase 3 0 0 0 0 0 4"]
        self.assertEqual(ask(lines, (ORDERS, [4, 3, 2, 1, 0]), (ORDERS, [0, 1, 2]), (ORDERS, [0, 2, 1])), [[0, 1]] * 3)

    def test_no_order_if_one_lacks_a_block(self):
        found = ask(ROW, (ORDERS, [0, 1, 4]), (ORDERS, [3, 0]), (ORDERS, [0, 1, 2, 5, 3]), (ORDERS, [5]))
        self.assertEqual(found, [[0, 0], [0, 0], [0, 16], [0, 0]])

    def test_no_order_with_a_dug_block(self):
        found = ask(ROW + ["dug 0 0 0 0 0 0"], (ORDERS, [0]), (ORDERS, [0, 1]), (ORDERS, [1, 3]), (DIG, 1),
                    (ORDERS, [1, 3]), (ORDERS, [3]), (ORDERS, [2, 3, 4]), (UNDO,), (ORDERS, [3, 1]))
        self.assertEqual(found, [[0, 0], [0, 0], [0, 1], [0, 1], [0, 0], [0, 1], [0, 3], [0, 1], [0, 1]])

    def test_no_order_with_a_block_of_phase_0(self):
        found = ask(ROW + ["phase 0 1 1 0 0 0 1"], (ORDERS, [1]), (ORDERS, [0, 1]), (ORDERS, [0, 2]),
                    (ORDERS, [0, 1, 3]))
        self.assertEqual(found, [[0, 0], [0, 0], [0, 2], [0, 0]])

    def test_phases_that_differ_are_alike(self):
        self.assertEqual(ask(ROW + ["phase 3 0 2 0 0 0 0"], (ORDERS, [0, 1, 2, 4])), [[0, 6]])

    def test_a_list_of_8_and_of_9(self):
        found = ask(FLAT, (ORDERS, list(range(8))), (ORDERS, list(range(9))), (ORDERS, [0, 36, 1, 37, 2, 38, 3, 39]),
                    (ORDERS, [0] * 9), (ORDERS, [0] * 8), (ORDERS, [0] * 3000))
        # Four pairs, each in one of its two orders.
        self.assertEqual(found, [[0, factorial(8)], [-1], [0, factorial(8) // 16], [-1], [-7], [-1]])

    def test_wrong_lists(self):
        found = ask(ROW, (ORDERS, [6]), (ORDERS, [4, 4]), (ORDERS, [4, 4, 6]), (ORDERS, [4, 4, 180]), (ORDERS, [-1]),
                    (ORDERS, [0, 179]))
        self.assertEqual(found, [[-2], [-7], [-2], [-1], [-1], [-2]])

    def test_nothing_is_dug(self):
        found = ask(ROW, (WRITE,), (ORDERS, [0, 1, 2, 4]), (WRITE,), (OPEN,), (ORDERS, [0, 1, 2, 4]), (UNDO,))
        self.assertEqual(found[0], found[2])
        self.assertEqual(found[3:], [[0, 0, 1, 2], [0, 6], [-6]])

    def some_list(self, dice, account, size):
        """Blocks that could mostly go next, in an order of the dice's choice."""
        gone = set(account.dug)
        blocks = []
        while len(blocks) < size:
            ready = [b for b in range(account.total) if account.why(b, gone) == 0]
            if not ready or dice.random() < 0.03:
                ready = [b for b in range(account.total) if b not in blocks]
            if not ready:
                break
            # The greatest ones are the deepest: so more of them need one another.
            blocks.append(max(dice.choices(ready, k=4)))
            gone.add(blocks[-1])
        return dice.sample(blocks, len(blocks))

    def test_against_the_second_account(self):
        dice = Random(29)
        counts = []
        for count in range(120):
            lines, calls, account = some_worked_mine(dice)
            lists = [self.some_list(dice, account, dice.randint(0, 5)) for number in range(5)]
            found = ask(lines, *calls, *[(ORDERS, blocks) for blocks in lists])[len(calls):]
            self.assertEqual(found, [[0, account.orders(blocks)] for blocks in lists], lines)
            counts += [answer[1] for answer in found]
        for number in (0, 1, 2, 3, 6, 24, 120):
            self.assertIn(number, counts)

    def test_as_many_as_order_tells_good(self):
        dice = Random(30)
        for count in range(60):
            lines, calls, account = some_worked_mine(dice)
            blocks = self.some_list(dice, account, dice.randint(0, 5))
            orders = [list(order) for order in permutations(blocks)]
            found = ask(lines, *calls, (ORDERS, blocks), *[(ORDER, order) for order in orders])[len(calls):]
            self.assertEqual(found[0], [0, found[1:].count([0, 1])], lines)


class Promise3(unittest.TestCase):
    def some_order(self, dice, account, key):
        """All that can be dug from now on, in an order of the dice's choice."""
        gone = set(account.dug)
        order = []
        while True:
            ready = [b for b in range(account.total) if account.why(b, gone) == 0]
            if not ready:
                return order
            order.append(key(ready) if key else dice.choice(ready))
            gone.add(order[-1])

    def test_whoever_digs_until_no_face_is_open_has_dug_the_same_blocks(self):
        dice = Random(33)
        several = 0
        for count in range(50):
            lines, calls, account = some_worked_mine(dice)
            ends = []
            for key in (None, None, min, max):
                order = self.some_order(dice, account, key)
                found = ask(lines, *calls, (PLAN,), (ROUNDS,), *[(DIG, b) for b in order], (OPEN,), (PLAN,), (WRITE,))
                plan, rounds = found[len(calls)][1:], found[len(calls) + 1][1:]
                self.assertEqual([answer[0] for answer in found[len(calls) + 2:]], [0] * (len(order) + 3), lines)
                self.assertEqual(found[-3:-1], [[0], [0]])
                self.assertEqual(sorted(plan), sorted(order))
                self.assertEqual([b for b in range(account.total) if rounds[b] > 0], sorted(order))
                ends.append(told(found[-1]))
                several += order != plan
            self.assertEqual(ends[1:], ends[:1] * 3)
        self.assertGreater(several, 50)

    def test_undone_and_dug_otherwise_it_is_the_same(self):
        calls = [(READ, text(*ROW, "phase 0 0 0 0 0 1 1")), (DIG, 2), (DIG, 1), (DIG, 5), (UNDO,), (DIG, 0), (DIG, 4),
                 (DIG, 5), (OPEN,), (WRITE,), (UNDO,), (UNDO,), (UNDO,), (UNDO,), (UNDO,), (DIG, 0), (DIG, 1), (DIG, 2),
                 (DIG, 5), (DIG, 4), (OPEN,), (WRITE,)]
        found = run(*calls)
        self.assertEqual(found[8], [0])
        self.assertEqual(found[-2], [0])
        self.assertEqual(found[9], found[-1])


if __name__ == "__main__":
    unittest.main()
