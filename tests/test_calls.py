"""What is said ahead of the list of calls, and the interface: refusals, their order, and one list for another."""

import subprocess
import sys
import unittest
from random import Random

from openfaces.mine import answers
from tests.helper import (AFTER, BEFORE, CONE, DIG, DIRECT, FAR, LACKS, LOOK, OPEN, ORDER, READ, UNDO, WRITE, ask,
                          coded, run, some_mine, text)

SMALL = "grid 3 1 2 10 10 1"
GREATEST = ["grid 6 6 5 1 1 1", "phase 1 0 5 0 5 0 4"]
OF_A_BLOCK = (CONE, BEFORE, DIRECT, AFTER)


class Refusals(unittest.TestCase):
    def test_out_of_range_ahead_of_no_mine(self):
        for wrong in (-1, 180, 181, FAR, -FAR):
            for number in OF_A_BLOCK + (DIG,):
                self.assertEqual(run((number, wrong)), [[-1]], (number, wrong))
                self.assertEqual(ask([SMALL], (number, wrong)), [[-1]], (number, wrong))
                self.assertEqual(ask(GREATEST, (number, wrong)), [[-1]], (number, wrong))
            for number in (ORDER, LACKS):
                for blocks in ([wrong], [0, wrong], [wrong, 0], [0, 0, wrong], [100, wrong], [1] * 99 + [wrong]):
                    self.assertEqual(run((number, blocks)), [[-1]], (number, blocks))
                    self.assertEqual(ask([SMALL], (number, blocks)), [[-1]], (number, blocks))

    def test_lists_too_long_ahead_of_no_mine(self):
        for number in (ORDER, LACKS):
            for size in (101, 102, 3000):
                self.assertEqual(run((number, [0] * size)), [[-1]])
                self.assertEqual(ask([SMALL], (number, [0] * size)), [[-1]])

    def test_no_mine(self):
        calls = [(WRITE,), (UNDO,), (OPEN,), (DIG, 0), (DIG, 179), (ORDER, []), (LACKS, []), (ORDER, [179]),
                 (LACKS, [179]), (LACKS, [5, 5]), (LACKS, [0] * 100)] + [(number, 179) for number in OF_A_BLOCK]
        self.assertEqual(run(*calls), [[-10]] * len(calls))
        for call in calls:
            self.assertEqual(run(call), [[-10]], call)

    def test_no_mine_behind_a_fault_or_a_look(self):
        for call in [(READ, text("x")), (READ, []), (READ, [256]), (READ, [32] * 3001), (LOOK, text(SMALL))]:
            self.assertEqual(run(call, (WRITE,), (DIG, 0), (ORDER, []))[1:], [[-10]] * 3)

    def test_read_and_look_need_no_mine(self):
        self.assertEqual(run((LOOK, text(SMALL)), (READ, text(SMALL))), [[0, 0, 6, 0]] * 2)

    def test_not_of_the_grid(self):
        for number in OF_A_BLOCK:
            self.assertEqual(ask([SMALL], (number, 6), (number, 179)), [[-2], [-2]])
            self.assertEqual(ask([SMALL], (number, 5))[0][0], 0)
            self.assertEqual(ask(GREATEST, (number, 179))[0][0], 0)
        found = ask([SMALL], (LACKS, [6]), (LACKS, [0, 179]), (LACKS, [5, 4, 3, 2, 1, 0]))
        self.assertEqual(found, [[-2], [-2], [0, 1]])

    def test_not_of_the_grid_ahead_of_twice(self):
        self.assertEqual(ask([SMALL], (LACKS, [0, 0, 6]), (LACKS, [6, 6])), [[-2], [-2]])

    def test_twice(self):
        self.assertEqual(ask([SMALL], (LACKS, [0, 0]), (LACKS, [3, 0, 1, 3]), (LACKS, [1] * 100)), [[-7]] * 3)

    def test_dig_and_order_tell_by_themselves(self):
        found = ask([SMALL], (DIG, 6), (ORDER, [6]), (ORDER, [0, 0]))
        self.assertEqual(found, [[-2], [0, 0, 0, 2], [0, 0, 0, 5]])

    def test_refusals_change_nothing(self):
        lines = [SMALL, "phase 1 0 2 0 0 0 1"]
        refused = [(READ, [256]), (READ, [32] * 3001), (LOOK, [-1]), (DIG, 180), (DIG, 6), (DIG, 0), (DIG, 4),
                   (LACKS, [0, 0]), (LACKS, [6]), (LACKS, [180]), (ORDER, [-1]), (CONE, 6), (AFTER, -1)]
        found = ask(lines, (DIG, 0), (WRITE,), *refused, (WRITE,), (UNDO,), (UNDO,))
        self.assertEqual(found[2:-3], [[-1]] * 4 + [[-2], [-3], [-4], [-7], [-2], [-1], [-1], [-2], [-1]])
        self.assertEqual(found[1], found[-3])
        self.assertEqual(found[-2:], [[0, 0], [-6]])


class Interface(unittest.TestCase):
    def test_one_list_number_by_number(self):
        lines = text("grid 2 1 2 10 10 1", "phase 1 0 1 0 0 0 1")
        calls = [9, 0, len(lines)] + lines + [9, 3, 1, 3, 1, 10, 0, 10, 2, 0, 2, 11, 1, 2, 5, 3, 4, 4, 6, 0]
        self.assertEqual(answers(calls), [1, -10, 4, 0, 0, 4, 4, 3, 0, 0, 1, 2, 0, 1, 1, -3, 2, 0, 1, 2, 0, 1,
                                          4, 0, 0, 2, 0, 3, 0, 0, 1, 2, 0, 1, 1, -6, 1, 0])

    def test_what_is_too_long_or_wrong_is_passed_over_whole(self):
        found = run((ORDER, [3] * 101), (READ, [0] * 3001), (LACKS, [FAR] * 3000), (READ, text(SMALL)), (OPEN,))
        self.assertEqual(found, [[-1], [-1], [-1], [0, 0, 6, 0], [0]])

    def some_calls(self, dice):
        """A row of calls of all kinds, of the dice's choice."""
        calls = []
        for count in range(4):
            lines, account = some_mine(dice)
            calls.append((dice.choice([READ, READ, LOOK]), text(*lines)))
            for step in range(20):
                number = dice.choice([WRITE, DIG, UNDO, OPEN, ORDER, LACKS] + list(OF_A_BLOCK))
                if number in (WRITE, UNDO, OPEN):
                    calls.append((number,))
                elif number in (ORDER, LACKS):
                    calls.append((number, [dice.randrange(-1, account.total + 1) for place in range(3)]))
                else:
                    calls.append((number, dice.randrange(-1, account.total + 1)))
        return calls

    def test_what_is_handed_in_is_the_same_afterwards_and_so_are_the_answers(self):
        dice = Random(17)
        for count in range(30):
            row = coded(self.some_calls(dice))
            kept = list(row)
            first = answers(row)
            self.assertEqual(row, kept)
            self.assertEqual(answers(row), first)
            self.assertEqual(row, kept)
            self.assertEqual({int}, {number.__class__ for number in first})
            self.assertIsInstance(first, list)

    def test_nothing_is_kept_from_one_time_to_the_next(self):
        self.assertEqual(run((READ, text(*GREATEST)), (DIG, 0))[1], [0, 1])
        self.assertEqual(run((OPEN,)), [[-10]])
        self.assertEqual(run((READ, text(*GREATEST)), (DIG, 0))[1], [0, 1])

    def test_400_calls(self):
        found = ask(GREATEST, *[(DIG, block % 180) for block in range(399)])
        self.assertEqual(found[:180], [[0, count + 1] for count in range(180)])
        self.assertEqual(found[180:], [[-3]] * 219)

    def test_400_reads_of_the_greatest_mine(self):
        lines = text("grid 6 6 5 1 9 4", "dug 0 5 0 5 0 4")
        self.assertEqual(run(*[(READ, lines)] * 400), [[0, 0, 180, 0]] * 400)

    def test_prints_and_reads_nothing(self):
        script = f"from openfaces.mine import answers\nanswers({coded([(READ, text(*GREATEST)), (WRITE,), (OPEN,)])})"
        done = subprocess.run([sys.executable, "-c", script], input="", capture_output=True, text=True, check=True)
        self.assertEqual((done.stdout, done.stderr), ("", ""))


if __name__ == "__main__":
    unittest.main()
