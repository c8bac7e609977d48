"""Calls 12 and 13: closure and outline."""

import unittest
from random import Random

from tests.helper import CLOSURE, DIG, LACKS, OUTLINE, UNDO, WRITE, ask, some_worked_mine

ROW = ["grid 3 1 2 10 10 1", "phase 1 0 2 0 0 0 1"]
# Arcs lead to the east alone: of block 8 to 0, 1, 2 and 4, 5, of block 11 to 3 and 7.
STAIRS = ["grid 4 1 3 10 10 2", "slope 0 1 1 0 1 0 1 0 1"]
STRAIGHT = ["grid 6 6 5 1 1 1", "slope 0 0 1 0 1 0 1 0 1"]


class Closure(unittest.TestCase):
    def test_all_that_must_go_with_a_block(self):
        found = ask(STAIRS, (CLOSURE, [8]), (CLOSURE, [11]), (CLOSURE, [10, 4]), (CLOSURE, [3]), (CLOSURE, [11, 3, 7]))
        self.assertEqual(found, [[0, 0, 1, 2, 4, 5, 8], [0, 3, 7, 11], [0, 0, 1, 2, 3, 4, 6, 7, 10], [0, 3],
                                 [0, 3, 7, 11]])

    def test_through_more_levels_than_the_reach(self):
        self.assertEqual(ask(["grid 5 1 3 10 10 1"], (CLOSURE, [12]), (CLOSURE, [10, 9])),
                         [[0, 0, 1, 2, 3, 4, 6, 7, 8, 12], [0, 0, 1, 2, 3, 4, 5, 6, 9, 10]])

    def test_each_block_by_the_slopes_of_its_own_set(self):
        # One to the east of block 13, two to the south; straight up from block 16.
        lines = ["grid 3 3 2 10 10 1", "slope 1 1 1 0 1 0 1 2 1", "slope 0 0 1 0 1 0 1 0 1", "set 1 0 2 1 1 1 1"]
        self.assertEqual(ask(lines, (CLOSURE, [13]), (CLOSURE, [16]), (CLOSURE, [16, 14])),
                         [[0, 1, 4, 5, 13], [0, 7, 16], [0, 2, 5, 7, 14, 16]])

    def test_an_empty_list(self):
        self.assertEqual(ask(STAIRS, (CLOSURE, [])), [[0]])

    def test_dug_blocks_are_left_out(self):
        lines = STAIRS + ["phase 1 0 3 0 0 0 2", "dug 2 3 0 0 0 0"]
        found = ask(lines, (CLOSURE, [10]), (DIG, 7), (CLOSURE, [10]), (CLOSURE, [7, 10, 2]), (CLOSURE, [2, 7]),
                    (UNDO,), (CLOSURE, [10]))
        self.assertEqual(found[::2], [[0, 6, 7, 10], [0, 6, 10], [0], [0, 6, 7, 10]])
        self.assertEqual(found[3], [0, 6, 10])

    def test_all_dug(self):
        self.assertEqual(ask(["grid 2 1 2 1 1 1", "dug 0 1 0 0 0 1"], (CLOSURE, [0, 1, 2, 3])), [[0]])

    def test_phases_do_not_matter(self):
        for phase in ("phase 0 0 3 0 0 0 2", "phase 3 0 3 0 0 0 0", "phase 1 0 3 0 0 0 2"):
            self.assertEqual(ask(STAIRS + [phase], (CLOSURE, [11])), [[0, 3, 7, 11]])

    def test_a_list_of_100_and_of_101(self):
        found = ask(STRAIGHT, (CLOSURE, list(range(100))), (CLOSURE, list(range(101))),
                    (CLOSURE, list(range(179, 79, -1))), (CLOSURE, [179]), (CLOSURE, [180]))
        self.assertEqual(found, [[0] + list(range(100)), [-1], [0] + list(range(180)), [0, 35, 71, 107, 143, 179],
                                 [-1]])

    def test_wrong_lists(self):
        found = ask(ROW, (CLOSURE, [6]), (CLOSURE, [4, 4]), (CLOSURE, [4, 4, 6]), (CLOSURE, [4, 4, 180]))
        self.assertEqual(found, [[-2], [-7], [-2], [-1]])

    def test_nothing_changes(self):
        found = ask(ROW, (WRITE,), (CLOSURE, [3]), (WRITE,), (CLOSURE, [4]))
        self.assertEqual(found[0], found[2])
        self.assertEqual(found[3], [0, 0, 1, 2, 4])

    def test_against_the_second_account(self):
        dice = Random(20)
        for count in range(100):
            lines, calls, account = some_worked_mine(dice)
            lists = [dice.sample(range(account.total), dice.randint(0, min(account.total, 7))) for number in range(15)]
            found = ask(lines, *calls, *[(CLOSURE, blocks) for blocks in lists])[len(calls):]
            self.assertEqual(found, [[0] + account.closure(blocks) for blocks in lists], lines)

    def test_it_lacks_none_and_without_any_one_more_it_would(self):
        dice = Random(21)
        for count in range(40):
            lines, calls, account = some_worked_mine(dice)
            wanted = dice.sample(range(account.total), min(account.total, 2))
            held = ask(lines, *calls, (CLOSURE, wanted))[-1][1:]
            if len(held) > 100:
                continue
            more = [block for block in held if block not in wanted]
            lists = [held] + [[block for block in held if block != less] for less in more]
            verdicts = [answer[1] for answer in ask(lines, *calls, *[(LACKS, blocks) for blocks in lists])[len(calls):]]
            self.assertEqual(verdicts, [1] + [0] * len(more), lines)


class Outline(unittest.TestCase):
    def test_nothing_lacking(self):
        self.assertEqual(ask(ROW, (OUTLINE,)), [[0, 1]])
        self.assertEqual(ask(["grid 3 1 2 10 10 1", "phase 3 0 1 0 0 0 0", "phase 1 0 0 0 0 1 1"], (OUTLINE,)),
                         [[0, 1]])

    def test_nothing_to_be_dug(self):
        self.assertEqual(ask(ROW[:1], (OUTLINE,)), [[0, 1]])

    def test_the_least_block_and_the_least_that_is_lacking(self):
        self.assertEqual(ask(ROW[:1] + ["phase 1 1 1 0 0 1 1"], (OUTLINE,)), [[0, 0, 4, 0]])
        self.assertEqual(ask(ROW[:1] + ["phase 1 1 1 0 0 1 1", "phase 2 0 0 0 0 0 0"], (OUTLINE,)), [[0, 0, 4, 1]])
        self.assertEqual(ask(ROW + ["phase 0 2 2 0 0 0 0"], (OUTLINE,)), [[0, 0, 4, 2]])
        self.assertEqual(ask(ROW + ["phase 0 0 2 0 0 0 0", "phase 0 0 0 0 0 1 1"], (OUTLINE,)), [[0, 0, 4, 0]])

    def test_phases_that_differ_are_alike(self):
        lines = ROW[:1] + ["phase 3 0 2 0 0 0 0", "phase 1 0 2 0 0 1 1"]
        self.assertEqual(ask(lines, (OUTLINE,)), [[0, 1]])

    def test_what_is_dug_is_not_lacking(self):
        lines = ["grid 3 1 2 10 10 1", "phase 1 1 1 0 0 1 1", "dug 0 1 0 0 0 0"]
        self.assertEqual(ask(lines, (OUTLINE,)), [[0, 0, 4, 2]])
        self.assertEqual(ask(lines + ["dug 2 2 0 0 0 0"], (OUTLINE,)), [[0, 1]])

    def test_a_dug_block_lacks_none(self):
        lines = ["grid 3 1 2 10 10 1", "phase 1 0 2 0 0 1 1", "dug 0 1 0 0 0 0"]
        self.assertEqual(ask(lines, (DIG, 3), (OUTLINE,), (UNDO,), (OUTLINE,)), [[0, 1], [0, 0, 4, 2], [0, 3],
                                                                               [0, 0, 4, 2]])

    def test_more_than_100_blocks(self):
        lines = STRAIGHT + ["phase 1 0 5 0 5 0 4"]
        self.assertEqual(ask(lines, (OUTLINE,)), [[0, 1]])
        self.assertEqual(ask(lines + ["phase 0 5 5 5 5 3 3"], (OUTLINE,)), [[0, 0, 179, 143]])
        self.assertEqual(ask(lines + ["phase 0 0 0 0 0 0 0"], (OUTLINE,)), [[0, 0, 36, 0]])

    def test_against_the_second_account(self):
        dice = Random(22)
        verdicts = []
        for count in range(150):
            lines, calls, account = some_worked_mine(dice)
            verdicts.append(ask(lines, *calls, (OUTLINE,))[-1])
            self.assertEqual(verdicts[-1], account.outline(), lines)
        self.assertGreater(verdicts.count([0, 1]), 20)
        self.assertLess(verdicts.count([0, 1]), 130)


if __name__ == "__main__":
    unittest.main()
