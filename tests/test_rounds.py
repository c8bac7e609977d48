"""Calls 16 and 17: rounds and chain; promise 4."""

import unittest
from random import Random

from tests.helper import CHAIN, CONE, DIG, OPEN, ROUNDS, UNDO, WRITE, ask, some_worked_mine

ROW = ["grid 3 1 2 10 10 1", "phase 1 0 2 0 0 0 1"]
# Arcs lead to the east alone: of block 8 to 0, 1, 2 and 4, 5, of block 11 to 3 and 7.
STAIRS = ["grid 4 1 3 10 10 2", "slope 0 1 1 0 1 0 1 0 1", "phase 1 0 3 0 0 0 2"]


class Rounds(unittest.TestCase):
    def test_level_by_level(self):
        self.assertEqual(ask(ROW, (ROUNDS,)), [[0, 1, 1, 1, 2, 2, 2]])
        self.assertEqual(ask(STAIRS, (ROUNDS,)), [[0, 1, 1, 1, 1, 2, 2, 2, 2, 3, 3, 3, 3]])

    def test_dug_by_the_text_and_since(self):
        found = ask(ROW + ["dug 0 0 0 0 0 0"], (ROUNDS,), (DIG, 1), (ROUNDS,), (DIG, 3), (ROUNDS,), (UNDO,), (ROUNDS,))
        self.assertEqual(found[::2], [[0, 0, 1, 1, 2, 2, 2], [0, 0, 0, 1, 1, 2, 2], [0, 0, 0, 1, 0, 2, 2],
                                      [0, 0, 0, 1, 1, 2, 2]])

    def test_a_round_is_one_behind_the_last_of_its_cone(self):
        found = ask(STAIRS + ["dug 3 3 0 0 0 1"], (ROUNDS,), (DIG, 11), (DIG, 2), (ROUNDS,))
        self.assertEqual(found[::3], [[0, 1, 1, 1, 0, 2, 2, 2, 0, 3, 3, 3, 1], [0, 1, 1, 0, 0, 2, 2, 1, 0, 3, 3, 2, 0]])

    def test_phase_0_and_what_needs_it_is_never_dug(self):
        self.assertEqual(ask(ROW + ["phase 0 0 0 0 0 0 0"], (ROUNDS,)), [[0, -1, 1, 1, -1, -1, 2]])
        self.assertEqual(ask(ROW + ["phase 0 0 0 0 0 1 1"], (ROUNDS,)), [[0, 1, 1, 1, -1, 2, 2]])
        self.assertEqual(ask(STAIRS + ["phase 0 3 3 0 0 1 1"], (ROUNDS,)), [[0, 1, 1, 1, 1, 2, 2, 2, -1, 3, 3, -1, -1]])

    def test_never_through_blocks_of_phases(self):
        lines = ["grid 1 1 5 1 1 1", "phase 2 0 0 0 0 1 4"]
        self.assertEqual(ask(lines, (ROUNDS,)), [[0, -1, -1, -1, -1, -1]])
        self.assertEqual(ask(lines + ["dug 0 0 0 0 0 0"], (ROUNDS,)), [[0, 0, 1, 2, 3, 4]])

    def test_phases_that_differ_are_alike(self):
        self.assertEqual(ask(ROW + ["phase 3 0 2 0 0 0 0"], (ROUNDS,)), [[0, 1, 1, 1, 2, 2, 2]])

    def test_nothing_to_be_dug_and_all_dug(self):
        self.assertEqual(ask(["grid 2 2 1 1 1 1"], (ROUNDS,)), [[0, -1, -1, -1, -1]])
        self.assertEqual(ask(["grid 2 2 1 1 1 1", "dug 0 1 0 1 0 0"], (ROUNDS,)), [[0, 0, 0, 0, 0]])

    def test_the_least_and_the_greatest_mine(self):
        self.assertEqual(ask(["grid 1 1 1 1 1 1", "phase 1 0 0 0 0 0 0"], (ROUNDS,)), [[0, 1]])
        found = ask(["grid 6 6 5 1 1 1", "phase 1 0 5 0 5 0 4"], (ROUNDS,))
        self.assertEqual(found, [[0] + [b // 36 + 1 for b in range(180)]])

    def test_nothing_is_dug(self):
        found = ask(ROW, (WRITE,), (ROUNDS,), (WRITE,), (ROUNDS,), (OPEN,), (UNDO,))
        self.assertEqual(found[0], found[2])
        self.assertEqual(found[3:], [[0, 1, 1, 1, 2, 2, 2], [0, 0, 1, 2], [-6]])

    def test_against_the_second_account(self):
        dice = Random(25)
        deepest = []
        for count in range(150):
            lines, calls, account = some_worked_mine(dice)
            found = ask(lines, *calls, (ROUNDS,))[-1]
            self.assertEqual(found, [0] + account.rounds(), lines)
            deepest.append(max(found))
        self.assertEqual(sorted(set(deepest)), [0, 1, 2, 3, 4, 5])


class Chain(unittest.TestCase):
    def test_the_least_of_the_cone_whose_round_is_one_less(self):
        found = ask(ROW, (CHAIN, 4), (CHAIN, 5), (CHAIN, 3))
        self.assertEqual(found, [[0, 4, 0], [0, 5, 1], [0, 3, 0]])
        found = ask(STAIRS, (CHAIN, 8), (CHAIN, 9), (CHAIN, 10), (CHAIN, 11), (CHAIN, 7))
        self.assertEqual(found, [[0, 8, 4, 0], [0, 9, 5, 1], [0, 10, 6, 2], [0, 11, 7, 3], [0, 7, 3]])

    def test_a_block_of_round_1(self):
        self.assertEqual(ask(ROW, (CHAIN, 0), (CHAIN, 2)), [[0, 0], [0, 2]])

    def test_a_dug_block(self):
        found = ask(ROW + ["dug 0 0 0 0 0 0"], (CHAIN, 0), (DIG, 1), (CHAIN, 1), (UNDO,), (CHAIN, 1))
        self.assertEqual(found[::2], [[0], [0], [0, 1]])

    def test_a_dug_block_of_phase_0(self):
        self.assertEqual(ask(["grid 1 1 1 1 1 1", "dug 0 0 0 0 0 0"], (CHAIN, 0)), [[0]])

    def test_no_round(self):
        found = ask(ROW + ["phase 0 0 0 0 0 0 0"], (CHAIN, 0), (CHAIN, 3), (CHAIN, 4), (CHAIN, 5), (CHAIN, 1))
        self.assertEqual(found, [[-8], [-8], [-8], [0, 5, 1], [0, 1]])

    def test_not_of_the_grid_ahead_of_no_round(self):
        found = ask(ROW[:1], (CHAIN, 5), (CHAIN, 6), (CHAIN, 179), (CHAIN, 180), (CHAIN, -1))
        self.assertEqual(found, [[-8], [-2], [-2], [-1], [-1]])

    def test_some_dug(self):
        found = ask(ROW, (DIG, 0), (CHAIN, 4), (DIG, 1), (CHAIN, 4), (CHAIN, 3), (DIG, 2), (CHAIN, 4), (UNDO,),
                    (CHAIN, 4))
        self.assertEqual([found[1], found[3], found[4], found[6], found[8]],
                         [[0, 4, 1], [0, 4, 2], [0, 3], [0, 4], [0, 4, 2]])
        found = ask(STAIRS + ["dug 1 1 0 0 0 0"], (CHAIN, 9), (CHAIN, 8), (DIG, 0), (CHAIN, 4), (CHAIN, 8))
        self.assertEqual(found, [[0, 9, 5, 2], [0, 8, 4, 0], [0, 1], [0, 4], [0, 8, 5, 2]])

    def test_the_greatest_mine(self):
        lines = ["grid 6 6 5 1 10000 4", "slope 0 1000 1 1000 1 1000 1 1000 1", "phase 1 0 5 0 5 0 4"]
        found = ask(lines, (CHAIN, 179), (CHAIN, 144), (CHAIN, 35))
        self.assertEqual(found, [[0, 179, 108, 72, 36, 0], [0, 144, 108, 72, 36, 0], [0, 35]])

    def test_nothing_changes(self):
        found = ask(ROW, (WRITE,), (CHAIN, 4), (CHAIN, 0), (WRITE,), (CHAIN, 4))
        self.assertEqual(found[0], found[3])
        self.assertEqual(found[4], [0, 4, 0])

    def test_against_the_second_account(self):
        dice = Random(26)
        for count in range(60):
            lines, calls, account = some_worked_mine(dice)
            blocks = dice.sample(range(account.total), min(account.total, 40))
            found = ask(lines, *calls, *[(CHAIN, block) for block in blocks])[len(calls):]
            self.assertEqual(found, [account.chain(block) for block in blocks], lines)


class Promise4(unittest.TestCase):
    def test_the_chain_shows_the_round(self):
        dice = Random(4)
        for count in range(60):
            lines, calls, account = some_worked_mine(dice)
            blocks = range(account.total)
            found = ask(lines, *calls, (ROUNDS,), (OPEN,), *[(CHAIN, block) for block in blocks])[len(calls):]
            cones = [answer[1:] for answer in ask(lines, *[(CONE, block) for block in blocks])]
            rounds, faces = found[0][1:], found[1][1:]
            for block, chain in zip(blocks, found[2:], strict=True):
                if rounds[block] == -1:
                    self.assertEqual(chain, [-8])
                    continue
                self.assertEqual([rounds[b] for b in chain[1:]], list(range(rounds[block], 0, -1)))
                for lower, upper in zip(chain[1:], chain[2:]):
                    self.assertIn(upper, cones[lower])
                if rounds[block] > 0:
                    self.assertEqual(chain[1], block)
                    self.assertIn(chain[-1], faces)

    def some_rounds(self, dice, account):
        """Rounds of the dice's choice, in each some of the blocks that are open at its beginning."""
        rounds = []
        while account.faces():
            faces = account.faces()
            dug = faces if dice.random() < 0.5 else dice.sample(faces, dice.randint(1, len(faces)))
            rounds.append(dug)
            for block in dug:
                account.dig(block)
        return rounds

    def test_no_block_can_be_dug_in_fewer_rounds(self):
        dice = Random(44)
        late = 0
        for count in range(60):
            lines, calls, account = some_worked_mine(dice)
            rounds = self.some_rounds(dice, account)
            digs = [call for dug in rounds for call in [(OPEN,)] + [(DIG, block) for block in dug]]
            found = ask(lines, *calls, (ROUNDS,), *digs, (OPEN,))[len(calls):]
            told = found[0][1:]
            at = 1
            for number, dug in enumerate(rounds, start=1):
                self.assertLessEqual(set(dug), set(found[at][1:]))
                self.assertEqual([answer[0] for answer in found[at + 1:at + 1 + len(dug)]], [0] * len(dug))
                at += 1 + len(dug)
                for block in dug:
                    self.assertGreaterEqual(number, told[block])
                    self.assertGreaterEqual(told[block], 1)
                    late += number > told[block]
            self.assertEqual(found[-1], [0])
            self.assertEqual(len(digs) - len(rounds), len([number for number in told if number > 0]))
        self.assertGreater(late, 50)

    def test_all_that_is_open_each_time_takes_the_rounds_told(self):
        dice = Random(45)
        for count in range(40):
            lines, calls, account = some_worked_mine(dice)
            rounds = []
            while account.faces():
                rounds.append(account.faces())
                for block in rounds[-1]:
                    account.dig(block)
            digs = [(DIG, block) for dug in rounds for block in dug]
            found = ask(lines, *calls, (ROUNDS,), *digs, (OPEN,))[len(calls):]
            told = found[0][1:]
            self.assertEqual([told[call[1]] for call in digs],
                             [number for number, dug in enumerate(rounds, start=1) for block in dug])
            self.assertEqual([answer[0] for answer in found[1:]], [0] * (len(digs) + 1))
            self.assertEqual(found[-1], [0])


if __name__ == "__main__":
    unittest.main()
