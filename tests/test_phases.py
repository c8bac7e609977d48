"""Calls 14 and 15: early and pulled."""

import unittest
from random import Random

from tests.helper import DIG, EARLY, PULLED, UNDO, WRITE, ask, some_worked_mine

GRID = "grid 3 1 2 10 10 1"
SHAFT = "grid 1 1 3 10 10 "


def by_number(*phases):
    """The lines of phases for the blocks of GRID."""
    return [f"phase {phase} {b % 3} {b % 3} 0 0 {b // 3} {b // 3}" for b, phase in enumerate(phases)]


def down(*phases):
    """The lines of phases for the blocks of SHAFT."""
    return [f"phase {phase} 0 0 0 0 {z} {z}" for z, phase in enumerate(phases)]


class Early(unittest.TestCase):
    def test_equal_and_lesser_phases_above_are_well(self):
        for phases in ((1, 1, 1, 1, 1, 1), (1, 1, 1, 2, 2, 2), (1, 2, 3, 2, 3, 3), (3, 3, 3, 3, 3, 3)):
            self.assertEqual(ask([GRID] + by_number(*phases), (EARLY,)), [[0, 1]], phases)

    def test_nothing_to_be_dug(self):
        self.assertEqual(ask([GRID], (EARLY,)), [[0, 1]])

    def test_a_later_phase_above(self):
        self.assertEqual(ask([GRID] + by_number(1, 1, 2, 1, 1, 1), (EARLY,)), [[0, 0, 4, 2]])
        self.assertEqual(ask([GRID] + by_number(1, 1, 3, 2, 3, 2), (EARLY,)), [[0, 0, 5, 2]])
        self.assertEqual(ask([GRID] + by_number(3, 3, 3, 2, 2, 2), (EARLY,)), [[0, 0, 3, 0]])

    def test_phase_0_above(self):
        self.assertEqual(ask([GRID] + by_number(1, 0, 0, 0, 3, 3), (EARLY,)), [[0, 0, 4, 1]])
        self.assertEqual(ask([GRID] + by_number(0, 3, 1, 0, 0, 1), (EARLY,)), [[0, 0, 5, 1]])

    def test_the_least_such_whether_never_or_later(self):
        self.assertEqual(ask([GRID] + by_number(2, 0, 3, 0, 1, 1), (EARLY,)), [[0, 0, 4, 0]])
        self.assertEqual(ask([GRID] + by_number(0, 2, 3, 0, 1, 1), (EARLY,)), [[0, 0, 4, 0]])

    def test_a_block_of_phase_0_is_never_early(self):
        self.assertEqual(ask([GRID] + by_number(3, 3, 3, 0, 0, 0), (EARLY,)), [[0, 1]])

    def test_only_its_cone_is_looked_at(self):
        self.assertEqual(ask([SHAFT + "1"] + down(3, 0, 1), (EARLY,)), [[0, 0, 2, 1]])
        self.assertEqual(ask([SHAFT + "2"] + down(3, 0, 1), (EARLY,)), [[0, 0, 2, 0]])

    def test_what_is_dug_by_the_text_counts_no_more(self):
        lines = [GRID] + by_number(1, 0, 3, 1, 1, 1)
        self.assertEqual(ask(lines + ["dug 1 1 0 0 0 0"], (EARLY,)), [[0, 0, 4, 2]])
        self.assertEqual(ask(lines + ["dug 1 2 0 0 0 0"], (EARLY,)), [[0, 1]])
        self.assertEqual(ask([GRID] + by_number(3, 3, 3, 1, 1, 1) + ["dug 0 2 0 0 0 1"], (EARLY,)), [[0, 1]])

    def test_what_is_dug_and_undone_since(self):
        lines = [GRID] + by_number(1, 1, 3, 1, 1, 2)
        found = ask(lines, (EARLY,), (DIG, 2), (EARLY,), (UNDO,), (EARLY,))
        self.assertEqual(found[::2], [[0, 0, 4, 2], [0, 1], [0, 0, 4, 2]])

    def test_slopes_that_differ(self):
        lines = [GRID, "slope 0 1 1 0 1 0 1 0 1"]
        self.assertEqual(ask(lines + by_number(2, 1, 1, 3, 1, 1), (EARLY,)), [[0, 1]])
        self.assertEqual(ask(lines + by_number(1, 1, 2, 3, 1, 3), (EARLY,)), [[0, 0, 4, 2]])

    def test_the_greatest_mine(self):
        lines = ["grid 6 6 5 1 10000 4", "slope 0 1000 1 1000 1 1000 1 1000 1", "phase 2 0 5 0 5 0 4"]
        self.assertEqual(ask(lines, (EARLY,)), [[0, 1]])
        self.assertEqual(ask(lines + ["phase 1 5 5 5 5 4 4"], (EARLY,)), [[0, 0, 179, 0]])
        self.assertEqual(ask(lines + ["phase 3 5 5 5 5 3 3"], (EARLY,)), [[0, 0, 144, 143]])

    def test_against_the_second_account(self):
        dice = Random(23)
        verdicts = []
        for count in range(150):
            lines, calls, account = some_worked_mine(dice)
            verdicts.append(ask(lines, *calls, (EARLY,))[-1])
            self.assertEqual(verdicts[-1], account.early(), lines)
        self.assertGreater(verdicts.count([0, 1]), 20)
        self.assertLess(verdicts.count([0, 1]), 130)


class Pulled(unittest.TestCase):
    def test_blocks_and_the_least_phases_of_those_that_need_them(self):
        self.assertEqual(ask([GRID] + by_number(2, 2, 3, 2, 1, 3), (PULLED,)), [[0, 0, 1, 1, 1, 2, 1]])
        self.assertEqual(ask([GRID] + by_number(3, 3, 3, 2, 3, 1), (PULLED,)), [[0, 0, 2, 1, 1, 2, 1]])
        self.assertEqual(ask([GRID] + by_number(3, 2, 1, 2, 2, 2), (PULLED,)), [[0, 0, 2]])

    def test_nothing_is_pulled(self):
        for phases in ((1, 1, 1, 1, 1, 1), (1, 2, 1, 2, 2, 3), (2, 2, 2, 2, 2, 2), (0, 0, 0, 1, 2, 3)):
            self.assertEqual(ask([GRID] + by_number(*phases), (PULLED,)), [[0]], phases)
        self.assertEqual(ask([GRID], (PULLED,)), [[0]])

    def test_phase_0_pulls_nothing(self):
        self.assertEqual(ask([GRID] + by_number(3, 3, 3, 0, 0, 0), (PULLED,)), [[0]])
        self.assertEqual(ask([GRID] + by_number(3, 3, 3, 0, 2, 0), (PULLED,)), [[0, 0, 2, 1, 2, 2, 2]])

    def test_through_a_block_of_phase_0_between(self):
        self.assertEqual(ask([SHAFT + "1"] + down(3, 0, 2), (PULLED,)), [[0, 0, 2]])
        self.assertEqual(ask([SHAFT + "1"] + down(1, 0, 2), (PULLED,)), [[0]])

    def test_through_all_levels(self):
        self.assertEqual(ask([SHAFT + "1"] + down(3, 2, 1), (PULLED,)), [[0, 0, 1, 1, 1]])
        self.assertEqual(ask([SHAFT + "1"] + down(2, 3, 1), (PULLED,)), [[0, 0, 1, 1, 1]])
        self.assertEqual(ask([SHAFT + "1"] + down(3, 1, 2), (PULLED,)), [[0, 0, 1]])
        self.assertEqual(ask(["grid 1 1 5 1 1 1", "phase 3 0 0 0 0 0 3", "phase 1 0 0 0 0 4 4"], (PULLED,)),
                         [[0, 0, 1, 1, 1, 2, 1, 3, 1]])

    def test_dug_or_not(self):
        lines = [GRID] + by_number(2, 2, 3, 2, 1, 3)
        found = ask(lines + ["dug 0 1 0 0 0 0"], (PULLED,), (DIG, 2), (PULLED,), (DIG, 4), (PULLED,), (UNDO,),
                    (PULLED,))
        self.assertEqual(found[::2], [[0, 0, 1, 1, 1, 2, 1]] * 4)
        self.assertEqual(ask(lines + ["dug 0 2 0 0 0 1"], (PULLED,)), [[0, 0, 1, 1, 1, 2, 1]])

    def test_slopes_that_differ(self):
        # Arcs lead to the east alone: block 0 is needed by 3, not by 4.
        lines = [GRID, "slope 0 1 1 0 1 0 1 0 1"] + by_number(3, 3, 3, 2, 1, 2)
        self.assertEqual(ask(lines, (PULLED,)), [[0, 0, 2, 1, 1, 2, 1]])

    def test_the_greatest_mine(self):
        lines = ["grid 6 6 5 1 10000 4", "slope 0 1000 1 1000 1 1000 1 1000 1", "phase 3 0 5 0 5 0 4",
                 "phase 2 0 0 0 0 4 4"]
        self.assertEqual(ask(lines, (PULLED,))[0], [0] + [number for b in range(144) for number in (b, 2)])

    def test_nothing_changes(self):
        found = ask([GRID] + by_number(2, 2, 3, 2, 1, 3), (WRITE,), (PULLED,), (EARLY,), (WRITE,), (PULLED,))
        self.assertEqual(found[0], found[3])
        self.assertEqual(found[1], found[4])

    def test_against_the_second_account(self):
        dice = Random(24)
        some = 0
        for count in range(150):
            lines, calls, account = some_worked_mine(dice)
            found = ask(lines, *calls, (PULLED,))[-1]
            self.assertEqual(found, [0] + account.pulled(), lines)
            some += len(found) > 1
        self.assertGreater(some, 30)


if __name__ == "__main__":
    unittest.main()
