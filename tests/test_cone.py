"""Call 5, cone: arcs, exact."""

import unittest
from random import Random

from tests.helper import CONE, READ, ask, run, some_mine, text


def around(block, *others):
    """The cone that is asked for, as places against the block: (east, north), for a grid of 5 by 5 and two levels."""
    return sorted([(a % 5 - block % 5, a // 5 - (block - 25) // 5) for a in others])


class Cone(unittest.TestCase):
    def test_slopes_of_1_over_1(self):
        found = ask(["grid 3 3 2 10 10 1"], (CONE, 13), (CONE, 9), (CONE, 17), (CONE, 4))
        self.assertEqual(found, [[0, 1, 3, 4, 5, 7], [0, 0, 1, 3], [0, 5, 7, 8], [0]])

    def test_along_a_row_just_within_and_just_beyond(self):
        for run_rise, reached in [("3 1", True), ("999 333", True), ("1000 333", True), ("299 100", False),
                                  ("998 333", False), ("1000 334", False), ("0 1", False)]:
            for sizes in ("grid 2 1 2 3 1 1", "grid 1 2 2 3 1 1"):
                found = ask([sizes, "slope 0" + (" " + run_rise) * 4], (CONE, 2), (CONE, 3))
                self.assertEqual(found, [[0, 0, 1], [0, 0, 1]] if reached else [[0, 0], [0, 1]], (sizes, run_rise))

    def test_fractions_are_exact(self):
        # One forty-ninth, forty-nine times, is one.
        for rise, reached in [(49, [0, 0, 1]), (50, [0, 0])]:
            lines = ["grid 2 1 2 1 49 1", "slope 0 " + " ".join(["1 " + str(rise)] * 4)]
            self.assertEqual(ask(lines, (CONE, 2))[0], reached)
        # Of the greatest numbers, one part in ten thousand decides.
        for sizes, reached in [("10000 10000", [0, 0, 1]), ("9999 10000", [0, 0, 1]), ("10000 9999", [0, 0])]:
            lines = [f"grid 2 1 2 {sizes} 1", "slope 0" + " 1000 1000" * 4]
            self.assertEqual(ask(lines, (CONE, 2))[0], reached)

    def test_across_just_within_and_just_beyond(self):
        # Three and four blocks out with a run of five: the squares are together just 1.
        for run_rise, reached in [("5 1", True), ("1000 200", True), ("999 200", False), ("1000 201", False)]:
            cone = ask(["grid 5 5 2 10 10 1", "slope 0" + (" " + run_rise) * 4], (CONE, 25))[0][1:]
            self.assertEqual((23 in cone, 19 in cone), (reached, reached), run_rise)
            self.assertNotIn(24, cone)
            self.assertIn(18, cone)

    def test_across_with_two_different_slopes(self):
        # 3 out of 5 along one and 2 out of 5/2 along the other: 9/25 and 16/25 are together just 1.
        for other, reached in [("5 2", True), ("251 100", True), ("249 100", False),
                               ("1000 400", True), ("999 400", False)]:
            for sizes, slopes, block, across in [
                    ("4 3", f"5 1 {other} 0 1 0 1", 12, 11),
                    ("4 3", f"0 1 {other} 5 1 0 1", 15, 8),
                    ("4 3", f"0 1 0 1 5 1 {other}", 23, 0),
                    ("4 3", f"5 1 0 1 0 1 {other}", 20, 3),
                    ("3 4", f"{other} 1000 200 0 1 0 1", 12, 11),
                    ("3 4", f"0 1 0 1 {other} 10 2", 23, 0)]:
                cone = ask([f"grid {sizes} 2 1 1 1", "slope 0 " + slopes], (CONE, block))[0][1:]
                self.assertEqual(across in cone, reached, (sizes, slopes))

    def test_across_at_two_levels_up(self):
        # Half as much out for each level: the same three and two blocks, but at two levels up alone.
        for north, reached in [("5 4", True), ("499 400", False)]:
            cone = ask(["grid 4 3 3 1 1 2", f"slope 0 5 2 {north} 0 1 0 1"], (CONE, 24))[0][1:]
            self.assertEqual((11 in cone, 23 in cone), (reached, False), north)

    def test_each_side_has_its_slope(self):
        # East 2, north 1, west 0, south 3 blocks out.
        found = ask(["grid 5 5 2 10 10 1", "slope 0 2 1 1 1 0 1 3 1"], (CONE, 25 + 12), (CONE, 25 + 15))
        self.assertEqual(around(37, *found[0][1:]),
                         sorted([(0, 0), (1, 0), (2, 0), (0, 1), (0, -1), (0, -2), (1, -1), (1, -2)]))
        self.assertEqual(around(40, *found[1][1:]),
                         sorted([(0, 0), (1, 0), (2, 0), (0, 1), (0, -1), (0, -2), (0, -3), (1, -1), (1, -2)]))

    def test_a_run_of_0(self):
        straight = "slope 0 0 1 0 1000 0 7 0 1"
        self.assertEqual(ask(["grid 3 3 3 1 10000 2", straight], (CONE, 22), (CONE, 13)), [[0, 4, 13], [0, 4]])
        # A run of 0 to one side leaves the others, but no block across on that side.
        found = ask(["grid 3 3 2 10 10 1", "slope 0 0 1 1000 1 1000 1 1000 1"], (CONE, 13))
        self.assertEqual(found[0], [0, 0, 1, 3, 4, 6, 7])
        found = ask(["grid 3 3 2 10 10 1", "slope 0 1000 1 0 1 1000 1 1000 1"], (CONE, 13))
        self.assertEqual(found[0], [0, 0, 1, 2, 3, 4, 5])

    def test_the_set_is_that_of_the_lower_block(self):
        lines = ["grid 3 1 2 10 10 1", "slope 1 0 1 0 1 0 1 0 1", "slope 2 2 1 0 1 0 1 0 1", "set 1 1 1 0 0 1 1",
                 "set 1 0 2 0 0 0 0", "set 2 0 0 0 0 1 1"]
        self.assertEqual(ask(lines, (CONE, 3), (CONE, 4), (CONE, 5)), [[0, 0, 1, 2], [0, 1], [0, 1, 2]])

    def test_a_reach_above_1(self):
        grid = "grid 5 1 4 10 10 "
        self.assertEqual(ask([grid + "1"], (CONE, 17))[0], [0, 11, 12, 13])
        self.assertEqual(ask([grid + "2"], (CONE, 17))[0], [0, 5, 6, 7, 8, 9, 11, 12, 13])
        self.assertEqual(ask([grid + "3"], (CONE, 15))[0], [0, 0, 1, 2, 3, 5, 6, 7, 10, 11])
        self.assertEqual(ask([grid + "4"], (CONE, 15))[0], [0, 0, 1, 2, 3, 5, 6, 7, 10, 11])
        # Half a block out at one level up is none, but at two levels it is one.
        found = ask(["grid 3 1 3 10 10 2", "slope 0 1 2 1 2 1 2 1 2"], (CONE, 7), (CONE, 4))
        self.assertEqual(found, [[0, 0, 1, 2, 4], [0, 1]])

    def test_the_greatest_cone(self):
        lines = ["grid 6 6 5 1 10000 4", "slope 0 1000 1 1000 1 1000 1 1000 1"]
        found = ask(lines, (CONE, 179), (CONE, 35), (CONE, 36))
        self.assertEqual(found, [[0] + list(range(144)), [0], [0] + list(range(36))])

    def test_dug_or_not_is_all_the_same(self):
        lines = ["grid 3 3 2 10 10 1", "dug 0 2 0 2 0 0", "dug 1 1 1 1 1 1"]
        self.assertEqual(ask(lines, (CONE, 13)), [[0, 1, 3, 4, 5, 7]])

    def test_a_new_text_has_new_cones(self):
        found = run((READ, text("grid 3 1 2 10 10 1")), (CONE, 4), (READ, text("grid 3 1 2 10 1 1")), (CONE, 4))
        self.assertEqual([found[1], found[3]], [[0, 0, 1, 2], [0, 1]])

    def test_against_the_second_account(self):
        dice = Random(11)
        for count in range(150):
            lines, account = some_mine(dice)
            found = ask(lines, *[(CONE, block) for block in range(account.total)])
            self.assertEqual(found, [[0] + cone for cone in account.cones], lines)


if __name__ == "__main__":
    unittest.main()
