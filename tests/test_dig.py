"""Calls 3, 4 and 9: dig, undo and open; promise 1."""

import unittest
from random import Random

from tests.helper import DIG, OPEN, READ, UNDO, WRITE, ask, run, some_mine, text, told

ROW = ["grid 3 1 2 10 10 1", "phase 1 0 2 0 0 0 1"]


class Dig(unittest.TestCase):
    def test_counts_what_was_dug_since_the_text(self):
        found = ask(ROW + ["dug 0 0 0 0 0 0"], (DIG, 2), (DIG, 1), (DIG, 4), (DIG, 3), (DIG, 5))
        self.assertEqual(found, [[0, 1], [0, 2], [0, 3], [0, 4], [0, 5]])

    def test_no_such_block(self):
        self.assertEqual(ask(ROW, (DIG, 5), (DIG, 6), (DIG, 179)), [[-4], [-2], [-2]])
        greatest = ["grid 6 6 5 1 1 1", "slope 0 0 1 0 1 0 1 0 1", "phase 1 0 5 0 5 0 4"]
        self.assertEqual(ask(greatest, (DIG, 179), (DIG, 35)), [[-4], [0, 1]])

    def test_dug_already_by_the_text_or_since(self):
        found = ask(ROW + ["dug 0 0 0 0 0 0"], (DIG, 0), (DIG, 1), (DIG, 1), (DIG, 2))
        self.assertEqual(found, [[-3], [0, 1], [-3], [0, 2]])

    def test_phase_0(self):
        found = ask(ROW + ["phase 0 1 1 0 0 0 0"], (DIG, 1), (DIG, 0), (DIG, 4))
        self.assertEqual(found, [[-5], [0, 1], [-4]])

    def test_not_free(self):
        found = ask(ROW, (DIG, 4), (DIG, 0), (DIG, 4), (DIG, 1), (DIG, 4), (DIG, 3), (DIG, 2), (DIG, 4))
        self.assertEqual(found, [[-4], [0, 1], [-4], [0, 2], [-4], [0, 3], [0, 4], [0, 5]])

    def test_not_free_for_a_block_two_levels_above(self):
        # The steep set leaves the upper side block out of all other cones.
        lines = ["grid 2 1 3 10 10 2", "slope 0 0 1 0 1 0 1 0 1", "slope 1 1 2 0 1 0 1 0 1", "set 1 0 0 0 0 2 2",
                 "phase 1 0 1 0 0 0 2", "dug 0 0 0 0 0 1"]
        self.assertEqual(ask(lines, (DIG, 4), (DIG, 1), (DIG, 4)), [[-4], [0, 1], [0, 2]])
        lines[0] = "grid 2 1 3 10 10 1"
        self.assertEqual(ask(lines, (DIG, 4)), [[0, 1]])

    def test_dug_is_looked_at_ahead_of_the_phase(self):
        self.assertEqual(ask(["grid 2 1 1 1 1 1", "dug 0 0 0 0 0 0"], (DIG, 0), (DIG, 1)), [[-3], [-5]])

    def test_the_phase_is_looked_at_ahead_of_freedom(self):
        self.assertEqual(ask(ROW + ["phase 0 1 1 0 0 1 1"], (DIG, 4), (DIG, 5)), [[-5], [-4]])

    def test_a_refused_dig_changes_nothing(self):
        refused = [(DIG, 0), (DIG, 2), (DIG, 4), (DIG, 6), (DIG, 180), (DIG, -1)]
        found = ask(ROW + ["phase 0 2 2 0 0 0 0"], (DIG, 0), (WRITE,), *refused, (WRITE,), (UNDO,), (UNDO,))
        self.assertEqual(found[2:8], [[-3], [-5], [-4], [-2], [-1], [-1]])
        self.assertEqual(found[1], found[8])
        self.assertEqual(found[9:], [[0, 0], [-6]])


class Undo(unittest.TestCase):
    def test_the_last_one_first(self):
        found = ask(ROW, (DIG, 2), (DIG, 0), (DIG, 1), (UNDO,), (UNDO,), (UNDO,), (UNDO,))
        self.assertEqual(found[3:], [[0, 1], [0, 0], [0, 2], [-6]])

    def test_nothing_dug_since_the_text(self):
        self.assertEqual(ask(ROW, (UNDO,)), [[-6]])
        found = ask(ROW + ["dug 0 2 0 0 0 0"], (UNDO,), (WRITE,))
        self.assertEqual(found[0], [-6])
        self.assertEqual(told(found[1])[-1], "dug 0 2 0 0 0 0")

    def test_what_was_undone_can_be_dug_again(self):
        found = ask(ROW, (DIG, 0), (DIG, 1), (DIG, 3), (UNDO,), (OPEN,), (DIG, 3), (UNDO,), (UNDO,), (DIG, 3), (DIG, 1))
        self.assertEqual(found[3:], [[0, 3], [0, 2, 3], [0, 3], [0, 3], [0, 1], [-4], [0, 2]])

    def test_a_new_text_has_nothing_to_undo(self):
        found = run((READ, text(*ROW)), (DIG, 0), (READ, text(*ROW)), (UNDO,), (OPEN,))
        self.assertEqual(found[3:], [[-6], [0, 0, 1, 2]])

    def test_a_faulty_text_leaves_what_is_to_be_undone(self):
        found = run((READ, text(*ROW)), (DIG, 0), (READ, text("nonsense")), (UNDO,), (UNDO,))
        self.assertEqual(found[3:], [[0, 0], [-6]])


class Open(unittest.TestCase):
    def test_follows_what_is_dug_and_undone(self):
        found = ask(ROW, (OPEN,), (DIG, 0), (OPEN,), (DIG, 1), (OPEN,), (DIG, 2), (OPEN,), (UNDO,), (OPEN,))
        self.assertEqual(found[::2], [[0, 0, 1, 2], [0, 1, 2], [0, 2, 3], [0, 3, 4, 5], [0, 2, 3]])

    def test_phase_0_is_never_open(self):
        self.assertEqual(ask(["grid 3 2 2 1 1 1"], (OPEN,)), [[0]])
        self.assertEqual(ask(["grid 3 2 2 1 1 1", "phase 3 1 1 0 1 0 1"], (OPEN,)), [[0, 1, 4]])

    def test_all_phases_are_open_alike(self):
        lines = ["grid 4 1 1 1 1 1", "phase 3 0 0 0 0 0 0", "phase 1 1 1 0 0 0 0", "phase 2 2 2 0 0 0 0"]
        self.assertEqual(ask(lines, (OPEN,)), [[0, 0, 1, 2]])

    def test_nothing_is_left(self):
        found = ask(["grid 1 1 2 1 1 1", "phase 1 0 0 0 0 0 1"], (OPEN,), (DIG, 0), (OPEN,), (DIG, 1), (OPEN,))
        self.assertEqual(found[::2], [[0, 0], [0, 1], [0]])

    def test_slopes_that_differ_to_the_four_sides(self):
        # One block out to the east and two to the south: in the cone of block 13 are 1, 4 and 5.
        lines = ["grid 3 3 2 10 10 1", "slope 0 1 1 0 1 0 1 2 1", "phase 1 1 1 1 1 0 1", "dug 1 1 0 0 0 0",
                 "dug 2 2 1 1 0 0"]
        self.assertEqual(ask(lines, (OPEN,), (DIG, 4), (OPEN,)), [[0, 4], [0, 1], [0, 13]])
        for missing in (3, 4):
            self.assertEqual(ask(lines[:missing] + lines[missing + 1:], (DIG, 4), (OPEN,)), [[0, 1], [0]])

    def test_the_greatest_mine(self):
        lines = ["grid 6 6 5 1 1 4", "phase 1 0 5 0 5 0 4"]
        self.assertEqual(ask(lines, (OPEN,)), [[0] + list(range(36))])
        self.assertEqual(ask(lines + ["dug 0 5 0 5 0 3"], (OPEN,)), [[0] + list(range(144, 180))])


class AgainstTheSecondAccount(unittest.TestCase):
    def steps(self, dice, account):
        """Some digs and undos of the dice's choice, with a look at what is open behind each, and their answers."""
        calls, expected, since = [], [], []
        for step in range(30):
            if dice.random() < 0.25:
                calls.append((UNDO,))
                expected.append([0, since[-1]] if since else [-6])
                if since:
                    account.dug.remove(since.pop())
            else:
                faces = account.faces()
                block = dice.choice(faces) if faces and dice.random() < 0.8 else dice.randrange(180)
                why = account.why(block, account.dug)
                if why == 0:
                    since.append(block)
                    account.dug.add(block)
                calls.append((DIG, block))
                expected.append([-why] if why else [0, len(since)])
            calls.append((OPEN,))
            expected.append([0] + account.faces())
        return calls, expected

    def test_digs_and_undos(self):
        dice = Random(13)
        for count in range(100):
            lines, account = some_mine(dice)
            calls, expected = self.steps(dice, account)
            found = ask(lines, *calls, (WRITE,))
            self.assertEqual(found[:-1], expected, lines)
            self.assertEqual(told(found[-1]), account.lines(), lines)


class Promise1(unittest.TestCase):
    def test_nothing_is_dug_before_all_that_must_go_before_it(self):
        dice = Random(1)
        dug_below = 0
        for count in range(60):
            lines, account = some_mine(dice)
            lines.append("phase 1 " + " ".join([f"0 {size - 1}" for size in account.sizes[:3]]))
            tries = [dice.randrange(account.total) for step in range(350)]
            gone = set(account.dug)
            for block, answer in zip(tries, ask(lines, *[(DIG, block) for block in tries]), strict=True):
                if answer[0] == 0:
                    self.assertLessEqual(account.befores[block], gone, (lines, block))
                    gone.add(block)
                    dug_below += len(account.befores[block]) > 0
        self.assertGreater(dug_below, 100)


if __name__ == "__main__":
    unittest.main()
