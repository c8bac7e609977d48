"""Calls 22 and 23: block and grid."""

import unittest
from random import Random

from tests.helper import BLOCK, DIG, GRID, LOOK, READ, UNDO, WRITE, ask, run, some_worked_mine, text

MIXED = ["grid 3 2 2 10 20 1", "slope 0 0 1 0 1 0 1 0 1", "set 2 1 2 0 0 0 0", "set 3 2 2 1 1 1 1",
         "phase 1 0 1 0 1 0 1", "phase 3 2 2 1 1 0 1", "dug 0 0 0 0 0 0"]


class Block(unittest.TestCase):
    def test_places_set_phase_dug_and_open(self):
        found = ask(MIXED, *[(BLOCK, b) for b in (0, 1, 2, 3, 5, 6, 7, 11)])
        self.assertEqual(found, [[0, 0, 0, 0, 0, 1, 1, 0], [0, 1, 0, 0, 2, 1, 0, 1], [0, 2, 0, 0, 2, 0, 0, 0],
                                 [0, 0, 1, 0, 0, 1, 0, 1], [0, 2, 1, 0, 0, 3, 0, 1], [0, 0, 0, 1, 0, 1, 0, 1],
                                 [0, 1, 0, 1, 0, 1, 0, 0], [0, 2, 1, 1, 3, 3, 0, 0]])

    def test_dug_and_undone_since(self):
        found = ask(MIXED, (DIG, 6), (BLOCK, 6), (UNDO,), (BLOCK, 6), (DIG, 1), (BLOCK, 7))
        self.assertEqual(found[1::2], [[0, 0, 0, 1, 0, 1, 1, 0], [0, 0, 0, 1, 0, 1, 0, 1], [0, 1, 0, 1, 0, 1, 0, 1]])

    def test_dug_with_phase_0(self):
        self.assertEqual(ask(["grid 1 1 1 1 1 1", "dug 0 0 0 0 0 0"], (BLOCK, 0)), [[0, 0, 0, 0, 0, 0, 1, 0]])

    def test_the_last_block_of_the_greatest_grid(self):
        lines = ["grid 6 6 5 1 1 1", "set 3 5 5 5 5 4 4", "phase 2 5 5 5 5 4 4", "dug 0 5 0 5 0 3"]
        self.assertEqual(ask(lines, (BLOCK, 179), (BLOCK, 143), (BLOCK, 180)),
                         [[0, 5, 5, 4, 3, 2, 0, 1], [0, 5, 5, 3, 0, 0, 1, 0], [-1]])

    def test_wrong_blocks(self):
        self.assertEqual(ask(MIXED, (BLOCK, 12), (BLOCK, 179), (BLOCK, 180), (BLOCK, -1)), [[-2], [-2], [-1], [-1]])

    def test_nothing_changes(self):
        found = ask(MIXED, (WRITE,), (BLOCK, 6), (GRID,), (WRITE,), (BLOCK, 6), (GRID,))
        self.assertEqual(found[:3], found[3:])

    def test_against_the_second_account(self):
        dice = Random(34)
        for count in range(50):
            lines, calls, account = some_worked_mine(dice)
            blocks = range(account.total)
            found = ask(lines, *calls, *[(BLOCK, b) for b in blocks])[len(calls):]
            self.assertEqual(found, [account.block(b) for b in blocks], lines)


class Grid(unittest.TestCase):
    def test_sizes_and_counts(self):
        self.assertEqual(ask(MIXED, (GRID,)), [[0, 3, 2, 2, 10, 20, 1, 1, 0, 10]])
        self.assertEqual(ask(["grid 5 1 2 7 10000 4"], (GRID,)), [[0, 5, 1, 2, 7, 10000, 4, 0, 0, 0]])
        self.assertEqual(ask(["grid 6 6 5 10000 9 3", "dug 0 5 0 5 0 4", "phase 1 0 5 0 5 0 4"], (GRID,)),
                         [[0, 6, 6, 5, 10000, 9, 3, 180, 0, 180]])

    def test_dug_by_the_text_and_since(self):
        found = ask(MIXED, (DIG, 6), (GRID,), (DIG, 1), (GRID,), (UNDO,), (GRID,), (UNDO,), (GRID,))
        self.assertEqual([answer[7:] for answer in found[1::2]], [[1, 1, 10], [1, 2, 10], [1, 1, 10], [1, 0, 10]])

    def test_what_was_dug_since_is_the_texts_when_read_again(self):
        written = ask(MIXED, (DIG, 6), (WRITE,))[1][1:]
        self.assertEqual(run((READ, written), (GRID,))[1], [0, 3, 2, 2, 10, 20, 1, 2, 0, 10])

    def test_a_look_or_a_fault_leaves_it(self):
        found = run((READ, text(*MIXED)), (LOOK, text("grid 1 1 1 1 1 1")), (READ, text("grid 1 1 1 1 1")), (GRID,),
                    (READ, text("grid 1 1 1 1 1 1")), (GRID,))
        self.assertEqual(found[3::2], [[0, 3, 2, 2, 10, 20, 1, 1, 0, 10], [0, 1, 1, 1, 1, 1, 1, 0, 0, 0]])

    def test_without_a_mine(self):
        self.assertEqual(run((GRID,), (LOOK, text(*MIXED)), (GRID,))[::2], [[-10], [-10]])

    def test_against_the_second_account(self):
        dice = Random(35)
        for count in range(150):
            lines, calls, account = some_worked_mine(dice)
            self.assertEqual(ask(lines, *calls, (GRID,))[-1], account.grid(), lines)


if __name__ == "__main__":
    unittest.main()
