"""Calls 6, 7 and 8: before, direct and after."""

import unittest
from random import Random

from tests.helper import AFTER, BEFORE, DIG, DIRECT, ask, some_mine

CROSS = "grid 5 5 3 10 10 "
STRAIGHT = "slope 1 0 1 0 1 0 1 0 1"


class Needs(unittest.TestCase):
    def test_before_goes_through_all_levels(self):
        found = ask(["grid 5 1 3 10 10 1"], (BEFORE, 12), (BEFORE, 10), (BEFORE, 7), (BEFORE, 2))
        self.assertEqual(found, [[0, 0, 1, 2, 3, 4, 6, 7, 8], [0, 0, 1, 2, 5, 6], [0, 1, 2, 3], [0]])

    def test_before_follows_each_block_by_its_own_set(self):
        lines = ["grid 5 1 3 10 10 1", STRAIGHT, "set 1 0 4 0 0 1 1"]
        self.assertEqual(ask(lines, (BEFORE, 12))[0], [0, 1, 2, 3, 6, 7, 8])
        lines = ["grid 5 1 3 10 10 1", STRAIGHT, "set 1 0 4 0 0 2 2"]
        self.assertEqual(ask(lines, (BEFORE, 12))[0], [0, 1, 2, 3, 7])

    def test_before_dug_or_not(self):
        lines = ["grid 3 1 2 10 10 1", "phase 1 0 2 0 0 0 1", "dug 0 1 0 0 0 0"]
        found = ask(lines, (BEFORE, 4), (DIG, 2), (BEFORE, 4), (DIG, 4), (BEFORE, 4), (AFTER, 0), (DIRECT, 4))
        self.assertEqual([found[0], found[2], found[4]], [[0, 0, 1, 2]] * 3)
        self.assertEqual(found[5:], [[0, 3, 4], [0, 0, 1, 2]])

    def test_direct_leaves_out_what_others_of_the_cone_need(self):
        cross = [0, 32, 36, 37, 38, 42]
        self.assertEqual(ask([CROSS + "1"], (DIRECT, 62))[0], cross)
        self.assertEqual(ask([CROSS + "2"], (DIRECT, 62))[0], cross)
        self.assertEqual(len(ask([CROSS + "2"], (BEFORE, 62))[0]), 1 + 13 + 5)

    def test_direct_keeps_upper_blocks_that_no_other_needs(self):
        lines = [CROSS + "2", STRAIGHT, "set 1 0 4 0 4 1 1"]
        found = ask(lines, (DIRECT, 62))[0]
        # Level 0 within two blocks, without the five right above the cross on level 1.
        self.assertEqual(found, [0, 2, 6, 8, 10, 14, 16, 18, 22, 32, 36, 37, 38, 42])

    def test_direct_with_blocks_straight_above(self):
        # All three above are in the cone of block 3, but the upper two must go before the lowest.
        found = ask(["grid 1 1 4 10 10 3"], (DIRECT, 3), (DIRECT, 1), (DIRECT, 0))
        self.assertEqual(found, [[0, 2], [0, 0], [0]])

    def test_after(self):
        found = ask(["grid 5 1 3 10 10 1"], (AFTER, 2), (AFTER, 0), (AFTER, 5), (AFTER, 14))
        self.assertEqual(found, [[0, 6, 7, 8, 10, 11, 12, 13, 14], [0, 5, 6, 10, 11, 12], [0, 10, 11], [0]])

    def test_after_with_slopes_that_differ(self):
        # Arcs lead one block to the east and none to the west: so it's the blocks to the west that need one.
        found = ask(["grid 4 1 3 10 10 1", "slope 0 1 1 0 1 0 1 0 1"], (AFTER, 3), (AFTER, 0), (BEFORE, 8))
        self.assertEqual(found, [[0, 6, 7, 9, 10, 11], [0, 4, 8], [0, 0, 1, 2, 4, 5]])

    def test_one_level_needs_nothing(self):
        found = ask(["grid 6 6 1 1 10000 4", "slope 0 1000 1 1000 1 1000 1 1000 1"],
                    (BEFORE, 35), (DIRECT, 35), (AFTER, 35), (AFTER, 0))
        self.assertEqual(found, [[0]] * 4)

    def test_the_greatest_mine(self):
        lines = ["grid 6 6 5 1 10000 4", "slope 0 1000 1 1000 1 1000 1 1000 1"]
        found = ask(lines, (BEFORE, 179), (DIRECT, 179), (AFTER, 0), (AFTER, 143), (AFTER, 144))
        self.assertEqual(found, [[0] + list(range(144)), [0] + list(range(108, 144)), [0] + list(range(36, 180)),
                                 [0] + list(range(144, 180)), [0]])

    def test_against_the_second_account(self):
        dice = Random(12)
        for count in range(120):
            lines, account = some_mine(dice)
            blocks = range(account.total)
            self.assertEqual(ask(lines, *[(BEFORE, b) for b in blocks]), [[0] + account.before(b) for b in blocks])
            self.assertEqual(ask(lines, *[(DIRECT, b) for b in blocks]), [[0] + account.direct(b) for b in blocks])
            self.assertEqual(ask(lines, *[(AFTER, b) for b in blocks]), [[0] + account.after(b) for b in blocks])


if __name__ == "__main__":
    unittest.main()
