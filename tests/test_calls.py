"""What is said ahead of the list of calls, and the interface: refusals, their order, and one list for another."""

import subprocess
import sys
import unittest
from random import Random
from time import perf_counter

from openfaces.mine import answers
from tests.helper import (AFTER, BEFORE, BLOCK, CHAIN, CLOSURE, CONE, DIG, DIRECT, EARLY, FAR, GRID, LACKS, LEVEL, LOOK,
                          NARROW, OPEN, ORDER, ORDERS, OUTLINE, PLAN, PULLED, READ, ROUNDS, UNDO, WRITE, ask, coded,
                          run, some_mine, some_worked_mine, text)

SMALL = "grid 3 1 2 10 10 1"
GREATEST = ["grid 6 6 5 1 1 1", "phase 1 0 5 0 5 0 4"]
STRAIGHT = ["grid 6 6 5 1 1 1", "slope 0 0 1 0 1 0 1 0 1", "phase 1 0 5 0 5 0 4"]
OF_A_BLOCK = (CONE, BEFORE, DIRECT, AFTER, CHAIN, BLOCK)
OF_A_LIST = (LACKS, CLOSURE, ORDERS)
OF_NOTHING = (WRITE, OPEN, OUTLINE, EARLY, PULLED, ROUNDS, PLAN, GRID)


class Refusals(unittest.TestCase):
    def test_out_of_range_ahead_of_no_mine(self):
        for wrong in (-1, 180, 181, FAR, -FAR):
            for number in OF_A_BLOCK + (DIG,):
                self.assertEqual(run((number, wrong)), [[-1]], (number, wrong))
                self.assertEqual(ask([SMALL], (number, wrong)), [[-1]], (number, wrong))
                self.assertEqual(ask(GREATEST, (number, wrong)), [[-1]], (number, wrong))
            for number in (ORDER,) + OF_A_LIST:
                size = 7 if number == ORDERS else 99
                for blocks in ([wrong], [0, wrong], [wrong, 0], [0, 0, wrong], [100, wrong], [1] * size + [wrong]):
                    self.assertEqual(run((number, blocks)), [[-1]], (number, blocks))
                    self.assertEqual(ask([SMALL], (number, blocks)), [[-1]], (number, blocks))

    def test_lists_too_long_ahead_of_no_mine(self):
        for number in (ORDER,) + OF_A_LIST:
            for size in (101, 102, 3000):
                self.assertEqual(run((number, [0] * size)), [[-1]])
                self.assertEqual(ask([SMALL], (number, [0] * size)), [[-1]])
                self.assertEqual(ask(GREATEST, (number, list(range(size)))), [[-1]])
        self.assertEqual(run((ORDERS, [0] * 9), (ORDERS, list(range(100)))), [[-1], [-1]])

    def test_lists_that_are_just_not_too_long(self):
        hundred, eight = list(range(100)), list(range(8))
        found = ask(STRAIGHT, (ORDER, hundred), (LACKS, hundred), (CLOSURE, hundred), (ORDERS, eight))
        self.assertEqual(found, [[0, 1], [0, 1], [0] + hundred, [0, 40320]])

    def test_no_mine(self):
        calls = [(UNDO,), (DIG, 0), (DIG, 179), (ORDER, []), (ORDER, [179]), (ORDERS, [0] * 8), (LACKS, [0] * 100),
                 (CLOSURE, [0] * 100), (LEVEL, 0), (LEVEL, 4), (NARROW, 0, 1), (NARROW, 4, 6)]
        calls += [(number,) for number in OF_NOTHING]
        calls += [(number, block) for number in OF_A_BLOCK for block in (0, 179)]
        calls += [(number, blocks) for number in OF_A_LIST for blocks in ([], [179], [5, 5])]
        self.assertEqual(run(*calls), [[-10]] * len(calls))
        for call in calls:
            self.assertEqual(run(call), [[-10]], call)

    def test_no_mine_behind_a_fault_or_a_look(self):
        for call in [(READ, text("x")), (READ, []), (READ, [256]), (READ, [32] * 3001), (LOOK, text(SMALL))]:
            self.assertEqual(run(call, (WRITE,), (DIG, 0), (ORDER, []))[1:], [[-10]] * 3)

    def test_read_and_look_need_no_mine(self):
        self.assertEqual(run((LOOK, text(SMALL)), (READ, text(SMALL))), [[0, 0, 6, 0]] * 2)

    def test_not_of_the_grid(self):
        for number in OF_A_BLOCK:
            self.assertEqual(ask([SMALL], (number, 6), (number, 179)), [[-2], [-2]])
            self.assertEqual(ask([SMALL, "phase 1 0 2 0 0 0 1"], (number, 5))[0][0], 0)
            self.assertEqual(ask(GREATEST, (number, 179))[0][0], 0)
        for number in OF_A_LIST:
            found = ask([SMALL], (number, [6]), (number, [0, 179]), (number, [5, 4, 3, 2, 1, 0]))
            self.assertEqual(found[:2] + [found[2][0]], [[-2], [-2], 0])

    def test_chain_tells_that_there_is_no_such_block_ahead_of_no_round(self):
        self.assertEqual(ask([SMALL], (CHAIN, 180), (CHAIN, 6), (CHAIN, 5)), [[-1], [-2], [-8]])

    def test_not_of_the_grid_ahead_of_twice(self):
        for number in OF_A_LIST:
            self.assertEqual(ask([SMALL], (number, [0, 0, 6]), (number, [6, 6]), (number, [6, 0, 0])), [[-2]] * 3)

    def test_twice(self):
        for number in OF_A_LIST:
            self.assertEqual(ask([SMALL], (number, [0, 0]), (number, [3, 0, 1, 3]), (number, [1] * 8)), [[-7]] * 3)
        found = ask([SMALL], (LACKS, [1] * 100), (CLOSURE, [1] * 100), (ORDERS, [1] * 100))
        self.assertEqual(found, [[-7], [-7], [-1]])

    def test_levels(self):
        self.assertEqual(run((LEVEL, 5), (NARROW, 5, 1), (NARROW, 4, 0), (LEVEL, 4), (NARROW, 4, 1)),
                         [[-1], [-1], [-1], [-10], [-10]])
        self.assertEqual(ask([SMALL], (LEVEL, 5), (NARROW, 5, 1), (NARROW, 4, 7), (LEVEL, 4), (NARROW, 2, 1)),
                         [[-1], [-1], [-1], [-9], [-9]])

    def test_dig_and_order_tell_by_themselves(self):
        found = ask([SMALL], (DIG, 6), (ORDER, [6]), (ORDER, [0, 0]))
        self.assertEqual(found, [[-2], [0, 0, 0, 2], [0, 0, 0, 5]])

    def test_refusals_change_nothing(self):
        lines = [SMALL, "phase 1 0 2 0 0 0 1"]
        refused = [(READ, [256]), (READ, [32] * 3001), (LOOK, [-1]), (DIG, 180), (DIG, 6), (DIG, 0), (DIG, 4),
                   (LACKS, [0, 0]), (LACKS, [6]), (LACKS, [180]), (ORDER, [-1]), (CONE, 6), (AFTER, -1),
                   (CLOSURE, [0, 0]), (CLOSURE, [6]), (CLOSURE, [180]), (ORDERS, [1, 1]), (ORDERS, [6]),
                   (ORDERS, [0] * 9), (CHAIN, 6), (CHAIN, 180), (LEVEL, 2), (LEVEL, 5), (NARROW, 2, 1), (NARROW, 0, 7),
                   (BLOCK, 6), (BLOCK, 180)]
        found = ask(lines, (DIG, 0), (WRITE,), *refused, (WRITE,), (UNDO,), (UNDO,))
        self.assertEqual([answer[0] for answer in found[2:-3]],
                         [-1] * 4 + [-2, -3, -4, -7, -2, -1, -1, -2, -1, -7, -2, -1, -7, -2, -1, -2, -1, -9, -1, -9, -1,
                                     -2, -1])
        self.assertEqual({len(answer) for answer in found[2:-3]}, {1})
        self.assertEqual(found[1], found[-3])
        self.assertEqual(found[-2:], [[0, 0], [-6]])


class WhatOnlyTells(unittest.TestCase):
    def telling(self, dice, account):
        """Calls of all kinds that only tell, on blocks and levels of the dice's choice."""
        block = dice.randrange(account.total)
        few = dice.sample(range(account.total), min(account.total, dice.randint(0, 4)))
        near = account.plan()[:5]
        return ([(number,) for number in OF_NOTHING] + [(number, block) for number in OF_A_BLOCK]
                + [(number, blocks) for number in (ORDER,) + OF_A_LIST for blocks in (few, near)]
                + [(LEVEL, dice.randrange(5)), (NARROW, dice.randrange(5), dice.randint(1, 6))]
                + [(LOOK, text("grid 2 2 2 1 1 1", "dug 0 1 0 1 0 0")), (LOOK, text("grid"))])

    def test_what_is_asked_behind_is_answered_as_if_it_had_not_been_called(self):
        dice = Random(18)
        for count in range(25):
            lines, calls, account = some_worked_mine(dice)
            telling = self.telling(dice, account)
            digs = [(DIG, block) for block in account.plan()[:3]]
            behind = telling + digs + [(UNDO,)] * 5 + [(WRITE,), (GRID,)]
            alone = ask(lines, *calls, *behind)[len(calls):]
            for call in telling:
                found = ask(lines, *calls, call, *behind)[len(calls) + 1:]
                self.assertEqual(found, alone, (lines, call))
            twice = ask(lines, *calls, *telling, *behind)[len(calls):]
            self.assertEqual(twice[len(telling):], alone, lines)
            self.assertEqual(twice[:len(telling)], alone[:len(telling)], lines)


class Interface(unittest.TestCase):
    def test_one_list_number_by_number(self):
        lines = text("grid 2 1 2 10 10 1", "phase 1 0 1 0 0 0 1")
        calls = [9, 0, len(lines)] + lines + [9, 3, 1, 3, 1, 10, 0, 10, 2, 0, 2, 11, 1, 2, 5, 3, 4, 4, 6, 0]
        self.assertEqual(answers(calls), [1, -10, 4, 0, 0, 4, 4, 3, 0, 0, 1, 2, 0, 1, 1, -3, 2, 0, 1, 2, 0, 1,
                                          4, 0, 0, 2, 0, 3, 0, 0, 1, 2, 0, 1, 1, -6, 1, 0])

    def test_the_calls_12_to_23_number_by_number(self):
        lines = text("grid 2 1 2 10 10 1", "phase 1 0 1 0 0 0 1", "phase 2 0 0 0 0 0 0")
        calls = [0, len(lines)] + lines
        calls += [12, 1, 2, 13, 14, 15, 16, 17, 2, 18, 19, 0, 19, 3, 0, 1, 2, 20, 1, 21, 0, 2, 22, 3, 23, 12, 0]
        self.assertEqual(answers(calls)[5:], [
            4, 0, 0, 1, 2, 2, 0, 1, 4, 0, 0, 2, 0, 3, 0, 0, 1, 5, 0, 1, 1, 2, 2, 3, 0, 2, 0, 5, 0, 1, 0, 2, 3,
            2, 0, 1, 2, 0, 2, 4, 0, 0, 0, 0, 3, 0, 0, 1, 8, 0, 1, 0, 1, 0, 1, 0, 0, 10, 0, 2, 1, 2, 10, 10, 1, 0, 0, 4,
            1, 0])

    def test_what_is_too_long_or_wrong_is_passed_over_whole(self):
        found = run((ORDER, [3] * 101), (READ, [0] * 3001), (LACKS, [FAR] * 3000), (READ, text(SMALL)), (OPEN,))
        self.assertEqual(found, [[-1], [-1], [-1], [0, 0, 6, 0], [0]])
        found = run((CLOSURE, [3] * 101), (ORDERS, [FAR] * 9), (NARROW, FAR, -FAR), (LEVEL, -FAR), (CHAIN, FAR),
                    (BLOCK, -FAR), (READ, text(SMALL)), (OPEN,))
        self.assertEqual(found, [[-1]] * 6 + [[0, 0, 6, 0], [0]])

    def some_calls(self, dice):
        """A row of calls of all kinds, of the dice's choice."""
        calls = []
        for count in range(4):
            lines, account = some_mine(dice)
            calls.append((dice.choice([READ, READ, LOOK]), text(*lines)))
            for step in range(40):
                number = dice.randrange(2, 24)
                if number in OF_NOTHING + (UNDO,):
                    calls.append((number,))
                elif number in OF_A_LIST + (ORDER,):
                    calls.append((number, [dice.randrange(-1, account.total + 1) for place in range(3)]))
                elif number == LEVEL:
                    calls.append((number, dice.randrange(-1, 6)))
                elif number == NARROW:
                    calls.append((number, dice.randrange(-1, 6), dice.randrange(8)))
                else:
                    calls.append((number, dice.randrange(-1, account.total + 1)))
        return calls

    def test_what_is_handed_in_is_the_same_afterwards_and_so_are_the_answers(self):
        dice = Random(17)
        for count in range(30):
            row = coded(self.some_calls(dice))
            kept = list(row)
            first = answers(row)
            self.assertEqual(row, kept)
            self.assertEqual(answers(row), first)
            self.assertEqual(row, kept)
            self.assertEqual({int}, {number.__class__ for number in first})
            self.assertIsInstance(first, list)

    def test_nothing_is_kept_from_one_time_to_the_next(self):
        self.assertEqual(run((READ, text(*GREATEST)), (DIG, 0))[1], [0, 1])
        self.assertEqual(run((OPEN,)), [[-10]])
        self.assertEqual(run((READ, text(*GREATEST)), (DIG, 0))[1], [0, 1])

    def test_400_calls(self):
        found = ask(GREATEST, *[(DIG, block % 180) for block in range(399)])
        self.assertEqual(found[:180], [[0, count + 1] for count in range(180)])
        self.assertEqual(found[180:], [[-3]] * 219)

    def test_400_reads_of_the_greatest_mine(self):
        lines = text("grid 6 6 5 1 9 4", "dug 0 5 0 5 0 4")
        self.assertEqual(run(*[(READ, lines)] * 400), [[0, 0, 180, 0]] * 400)

    def check_400_calls(self, others):
        """400 calls on the greatest grid with the greatest cones, the others (and again, and again) among them."""
        few = [0, 36, 1, 37, 2, 38, 72, 108]
        lines = text("grid 6 6 5 1 10000 4", "slope 0 1000 1 1000 1 1000 1 1000 1", "phase 1 0 5 0 5 0 4",
                     "phase 2 0 5 0 2 0 4", "phase 3 0 2 0 5 0 4")
        calls = [(READ, lines)] + ([(PLAN,), (ORDERS, few)] + [(WRITE,)] * 10) * 5
        calls += (others * 400)[:400 - len(calls)]
        row = coded(calls)
        self.assertLessEqual(len(row), 17000)
        began = perf_counter()
        found = answers(row)
        self.assertLess(perf_counter() - began, 10)
        self.assertLess(len(found), 1000000)
        self.assertEqual(answers(row), found)

    def test_400_calls_of_all_kinds_on_the_greatest_grid(self):
        self.check_400_calls([(CLOSURE, list(range(100, 180))), (OUTLINE,), (EARLY,), (PULLED,), (ROUNDS,),
                              (CHAIN, 179), (LEVEL, 4), (NARROW, 4, 3), (BLOCK, 179), (GRID,), (CONE, 179),
                              (BEFORE, 179), (DIRECT, 179), (AFTER, 0), (OPEN,), (LACKS, list(range(50))),
                              (ORDER, list(range(50))), (DIG, 179), (UNDO,)])

    def test_400_calls_of_one_kind_on_the_greatest_grid(self):
        for call in [(OUTLINE,), (EARLY,), (PULLED,), (ROUNDS,), (CHAIN, 179), (NARROW, 4, 3), (DIRECT, 179)]:
            self.check_400_calls([call])

    def test_orders_of_8_open_blocks_and_plans_in_the_greatest_grid(self):
        few = list(range(5, 13))
        calls = [(DIG, block) for block in range(5)] + [(PLAN,), (ORDERS, few)] * 5
        found = ask(["grid 6 6 5 1 10000 4", "phase 1 0 5 0 5 0 4"], *calls)
        self.assertEqual(found[5:], [[0] + list(range(5, 180)), [0, 40320]] * 5)

    def test_prints_and_reads_nothing(self):
        calls = [(READ, text(*GREATEST)), (CLOSURE, [179]), (CHAIN, 179), (ORDERS, [0, 1]), (LEVEL, 0), (NARROW, 0, 1)]
        calls += [(number,) for number in OF_NOTHING]
        script = f"from openfaces.mine import answers\nanswers({coded(calls)})"
        done = subprocess.run([sys.executable, "-c", script], input="", capture_output=True, text=True, check=True)
        self.assertEqual((done.stdout, done.stderr), ("", ""))


if __name__ == "__main__":
    unittest.main()
