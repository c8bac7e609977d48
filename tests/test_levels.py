"""Calls 20 and 21: level and narrow."""

import unittest
from random import Random

from tests.helper import DIG, FAR, LEVEL, NARROW, UNDO, WRITE, ask, run, some_worked_mine

SQUARE = ["grid 3 3 1 10 10 1", "phase 1 0 2 0 2 0 0"]
ROW = ["grid 3 1 2 10 10 1", "phase 1 0 2 0 0 0 1"]
FIVE = ["grid 1 1 5 1 1 1", "phase 1 0 0 0 0 0 4"]


class Level(unittest.TestCase):
    def test_dug_pairs_and_open(self):
        self.assertEqual(ask(SQUARE, (LEVEL, 0)), [[0, 0, 0, 9]])
        self.assertEqual(ask(SQUARE + ["dug 1 1 1 1 0 0"], (LEVEL, 0)), [[0, 1, 4, 8]])
        self.assertEqual(ask(SQUARE + ["dug 0 0 0 0 0 0"], (LEVEL, 0)), [[0, 1, 2, 8]])
        self.assertEqual(ask(SQUARE + ["dug 0 1 0 1 0 0"], (LEVEL, 0)), [[0, 4, 4, 5]])
        self.assertEqual(ask(SQUARE + ["dug 0 2 0 2 0 0"], (LEVEL, 0)), [[0, 9, 0, 0]])

    def test_a_row_does_not_go_on_in_the_next(self):
        self.assertEqual(ask(SQUARE + ["dug 2 2 0 0 0 0"], (LEVEL, 0)), [[0, 1, 2, 8]])
        self.assertEqual(ask(SQUARE + ["dug 0 2 0 0 0 0"], (LEVEL, 0)), [[0, 3, 3, 6]])
        self.assertEqual(ask(SQUARE + ["dug 2 2 0 2 0 0"], (LEVEL, 0)), [[0, 3, 3, 6]])

    def test_along_x_and_along_y(self):
        for grid in ("grid 6 1 1 1 1 1", "grid 1 6 1 1 1 1"):
            found = ask([grid, "phase 1 0 0 0 0 0 0"], (DIG, 0), (LEVEL, 0))
            self.assertEqual(found[1], [0, 1, 1, 0])
        checked = ["grid 3 2 1 1 1 1"] + [f"dug {x} {x} {y} {y} 0 0" for x, y in ((0, 0), (2, 0), (1, 1))]
        self.assertEqual(ask(checked, (LEVEL, 0)), [[0, 3, 7, 0]])

    def test_a_level_does_not_go_on_in_the_next(self):
        found = ask(["grid 2 2 2 1 1 1", "slope 0 0 1 0 1 0 1 0 1", "phase 1 0 1 0 1 0 1", "dug 0 1 0 1 0 0"],
                    (LEVEL, 0), (LEVEL, 1), (DIG, 4), (LEVEL, 0), (LEVEL, 1))
        self.assertEqual(found, [[0, 4, 0, 0], [0, 0, 0, 4], [0, 1], [0, 4, 0, 0], [0, 1, 2, 3]])

    def test_phase_0_is_not_open(self):
        self.assertEqual(ask(SQUARE + ["phase 0 0 0 0 2 0 0", "dug 0 0 0 0 0 0"], (LEVEL, 0)), [[0, 1, 2, 6]])

    def test_dug_and_undone_since(self):
        found = ask(ROW, (LEVEL, 0), (LEVEL, 1), (DIG, 0), (DIG, 1), (LEVEL, 0), (LEVEL, 1), (DIG, 3), (LEVEL, 1),
                    (UNDO,), (UNDO,), (LEVEL, 0), (LEVEL, 1))
        self.assertEqual([found[place] for place in (0, 1, 4, 5, 7, 10, 11)],
                         [[0, 0, 0, 3], [0, 0, 0, 0], [0, 2, 1, 1], [0, 0, 0, 1], [0, 1, 1, 0], [0, 1, 1, 2],
                          [0, 0, 0, 0]])

    def test_no_such_level(self):
        self.assertEqual(ask(ROW, *[(LEVEL, z) for z in range(5)])[2:], [[-9]] * 3)
        self.assertEqual(ask(FIVE, (LEVEL, 0), (LEVEL, 4), (LEVEL, 5)), [[0, 0, 0, 1], [0, 0, 0, 0], [-1]])

    def test_out_of_range(self):
        for z in (5, 6, -1, FAR, -FAR):
            self.assertEqual(ask(FIVE, (LEVEL, z)), [[-1]])
            self.assertEqual(run((LEVEL, z), (LEVEL, 4)), [[-1], [-10]])

    def test_the_greatest_level(self):
        lines = ["grid 6 6 5 1 1 1", "slope 0 0 1 0 1 0 1 0 1", "phase 1 0 5 0 5 0 4"]
        stripes = [f"dug {x} {x} 0 5 0 4" for x in (0, 2, 4)]
        self.assertEqual(ask(lines + stripes, (LEVEL, 0), (LEVEL, 4)), [[0, 18, 30, 18], [0, 18, 30, 0]])

    def test_against_the_second_account(self):
        dice = Random(31)
        for count in range(120):
            lines, calls, account = some_worked_mine(dice)
            found = ask(lines, *calls, *[(LEVEL, z) for z in range(5)])[len(calls):]
            self.assertEqual(found, [account.level(z) for z in range(5)], lines)


class Narrow(unittest.TestCase):
    def test_a_tongue_is_narrow(self):
        # A square of 2 by 2 with a tongue of one block's width to the east, and a block by itself.
        lines = ["grid 5 4 1 1 1 1", "phase 1 0 1 0 1 0 0", "phase 2 2 4 0 0 0 0", "phase 3 4 4 3 3 0 0"]
        found = ask(lines, *[(NARROW, 0, w) for w in (1, 2, 3)])
        self.assertEqual(found, [[0], [0, 2, 3, 4, 19], [0, 0, 1, 2, 3, 4, 5, 6, 19]])

    def test_squares_may_overlap(self):
        lines = ["grid 4 3 1 1 1 1", "phase 1 0 2 0 1 0 0", "phase 1 2 3 1 2 0 0"]
        self.assertEqual(ask(lines, (NARROW, 0, 2), (NARROW, 0, 3)), [[0], [0, 0, 1, 2, 4, 5, 6, 7, 10, 11]])

    def test_a_hole_in_the_middle(self):
        lines = ["grid 3 3 1 1 1 1", "phase 1 0 2 0 2 0 0", "phase 0 1 1 1 1 0 0"]
        ring = [0, 1, 2, 3, 5, 6, 7, 8]
        self.assertEqual(ask(lines, (NARROW, 0, 1), (NARROW, 0, 2)), [[0], [0] + ring])
        self.assertEqual(ask(lines + ["dug 1 1 1 1 0 0"], (NARROW, 0, 2), (NARROW, 0, 3)), [[0], [0]])

    def test_dug_blocks_count_by_the_text_and_since(self):
        lines = ["grid 2 2 1 1 1 1", "phase 1 0 1 0 0 0 0", "dug 0 1 1 1 0 0"]
        self.assertEqual(ask(lines, (NARROW, 0, 2), (DIG, 0), (NARROW, 0, 2)), [[0], [0, 1], [0]])
        self.assertEqual(ask(lines[:2], (NARROW, 0, 2), (NARROW, 0, 1)), [[0, 0, 1], [0]])

    def test_each_level_by_itself(self):
        lines = ["grid 3 2 3 1 1 1", "phase 1 0 1 0 1 0 0", "phase 1 1 2 0 1 1 1", "phase 1 2 2 0 1 2 2"]
        found = ask(lines, (NARROW, 0, 2), (NARROW, 1, 2), (NARROW, 2, 2), (NARROW, 2, 1), (NARROW, 1, 3))
        self.assertEqual(found, [[0], [0], [0, 14, 17], [0], [0, 7, 8, 10, 11]])

    def test_wider_than_the_grid(self):
        lines = ["grid 6 2 1 1 1 1", "phase 1 0 5 0 1 0 0"]
        found = ask(lines, *[(NARROW, 0, w) for w in range(1, 7)])
        self.assertEqual(found, [[0]] * 2 + [[0] + list(range(12))] * 4)
        lines = ["grid 2 6 1 1 1 1", "phase 1 0 1 0 5 0 0"]
        found = ask(lines, *[(NARROW, 0, w) for w in range(1, 7)])
        self.assertEqual(found, [[0]] * 2 + [[0] + list(range(12))] * 4)
        least = ["grid 1 1 1 1 1 1", "phase 3 0 0 0 0 0 0"]
        self.assertEqual(ask(least, (NARROW, 0, 1), (NARROW, 0, 2), (NARROW, 0, 6)), [[0], [0, 0], [0, 0]])

    def test_the_greatest_square(self):
        lines = ["grid 6 6 5 1 1 1", "phase 1 0 5 0 5 4 4"]
        self.assertEqual(ask(lines, (NARROW, 4, 6)), [[0]])
        self.assertEqual(ask(lines + ["phase 0 5 5 5 5 4 4"], (NARROW, 4, 6), (NARROW, 4, 5)),
                         [[0] + list(range(144, 179)), [0]])

    def test_nothing_to_be_dug_and_all_dug(self):
        self.assertEqual(ask(["grid 3 3 1 1 1 1"], (NARROW, 0, 1), (NARROW, 0, 6)), [[0], [0]])
        self.assertEqual(ask(["grid 3 3 1 1 1 1", "dug 0 2 0 2 0 0"], (NARROW, 0, 3), (NARROW, 0, 4)),
                         [[0], [0] + list(range(9))])

    def test_no_such_level(self):
        self.assertEqual(ask(ROW, (NARROW, 1, 1), (NARROW, 2, 1), (NARROW, 4, 6)), [[0], [-9], [-9]])
        self.assertEqual(ask(FIVE, (NARROW, 4, 2), (NARROW, 4, 1)), [[0, 4], [0]])

    def test_out_of_range_ahead_of_no_mine_and_no_level(self):
        for z, w in ((5, 1), (-1, 1), (0, 0), (0, 7), (4, 0), (4, 7), (5, 7), (FAR, 1), (-FAR, 1), (0, FAR), (0, -FAR)):
            self.assertEqual(ask(ROW, (NARROW, z, w)), [[-1]], (z, w))
            self.assertEqual(run((NARROW, z, w), (NARROW, 4, 6), (NARROW, 0, 1)), [[-1], [-10], [-10]])

    def test_nothing_changes(self):
        found = ask(ROW, (WRITE,), (NARROW, 0, 2), (LEVEL, 0), (WRITE,), (NARROW, 0, 2), (LEVEL, 0))
        self.assertEqual(found[0], found[3])
        self.assertEqual(found[1:3], found[4:])

    def test_against_the_second_account(self):
        dice = Random(32)
        for count in range(100):
            lines, calls, account = some_worked_mine(dice)
            places = [(z, w) for z in range(5) for w in range(1, 7)]
            found = ask(lines, *calls, *[(NARROW, z, w) for z, w in places])[len(calls):]
            self.assertEqual(found, [account.narrow(z, w) for z, w in places], lines)


if __name__ == "__main__":
    unittest.main()
