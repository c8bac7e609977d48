"""Call 2, write: a mine as text; promise 5."""

import unittest
from random import Random

from tests.helper import (BLOCK, CONE, DIG, EARLY, GRID, LEVEL, NARROW, OPEN, OUTLINE, PLAN, PULLED, READ, ROUNDS, UNDO,
                          WRITE, ask, run, some_mine, some_worked_mine, text, told)

PLAIN = ["slope 0 1 1 1 1 1 1 1 1", "slope 1 1 1 1 1 1 1 1 1", "slope 2 1 1 1 1 1 1 1 1", "slope 3 1 1 1 1 1 1 1 1"]


class Write(unittest.TestCase):
    def test_without_a_mine(self):
        self.assertEqual(run((WRITE,)), [[-10]])

    def test_the_least_mine_byte_by_byte(self):
        lines = ["grid 1 1 1 1 1 1"] + PLAIN
        self.assertEqual(ask(lines[:1], (WRITE,))[0], [0] + text(*lines, ""))

    def test_slopes_are_not_brought_to_lowest_terms(self):
        slope = "slope 2 10 20 0 5 1000 1000 6 4"
        written = told(ask(["grid 2 2 2 100 10000 3", slope], (WRITE,))[0])
        self.assertEqual(written, ["grid 2 2 2 100 10000 3"] + PLAIN[:2] + [slope] + PLAIN[3:])

    def test_runs_row_by_row_and_level_by_level(self):
        grid = "grid 5 2 2 10 10 1"
        lines = ["dug 0 1 1 1 0 0", "dug 3 4 0 0 0 0", "phase 1 0 4 0 0 0 1", "phase 2 2 3 0 1 1 1",
                 "phase 0 4 4 0 0 1 1", "set 3 1 2 0 1 0 0", "set 1 3 3 0 0 0 0", "set 2 0 0 1 1 1 1",
                 "set 2 2 4 1 1 1 1"]
        written = told(ask([grid] + lines, (WRITE,))[0])
        self.assertEqual(written, [grid] + PLAIN + [
            "set 3 1 2 0 0 0 0", "set 1 3 3 0 0 0 0", "set 3 1 2 1 1 0 0",
            "set 2 0 0 1 1 1 1", "set 2 2 4 1 1 1 1",
            "phase 1 0 4 0 0 0 0", "phase 1 0 1 0 0 1 1", "phase 2 2 3 0 0 1 1", "phase 2 2 3 1 1 1 1",
            "dug 3 4 0 0 0 0", "dug 0 1 1 1 0 0"])

    def test_a_run_ends_with_its_row(self):
        written = told(ask(["grid 2 2 2 1 1 1", "phase 3 0 1 0 1 0 1"], (WRITE,))[0])
        self.assertEqual(written[5:], ["phase 3 0 1 0 0 0 0", "phase 3 0 1 1 1 0 0",
                                       "phase 3 0 1 0 0 1 1", "phase 3 0 1 1 1 1 1"])

    def test_what_was_dug_since_is_written_and_what_was_undone_is_not(self):
        found = ask(["grid 4 1 1 1 1 1", "phase 1 0 3 0 0 0 0", "dug 0 0 0 0 0 0"],
                    (DIG, 1), (WRITE,), (DIG, 3), (WRITE,), (UNDO,), (UNDO,), (WRITE,))
        self.assertEqual(told(found[1])[6:], ["dug 0 1 0 0 0 0"])
        self.assertEqual(told(found[3])[6:], ["dug 0 1 0 0 0 0", "dug 3 3 0 0 0 0"])
        self.assertEqual(told(found[6])[6:], ["dug 0 0 0 0 0 0"])

    def test_against_the_second_account(self):
        dice = Random(2)
        for count in range(150):
            lines, account = some_mine(dice)
            self.assertEqual(told(ask(lines, (WRITE,))[0]), account.lines(), lines)


class Promise5(unittest.TestCase):
    def test_written_and_read_again_the_mine_is_the_same(self):
        dice = Random(5)
        read_again = 0
        for count in range(120):
            lines, account = some_mine(dice)
            calls = [(DIG, dice.randrange(account.total)) for step in range(10)]
            queries = [(OPEN,), (WRITE,)] + [(CONE, block) for block in range(account.total)]
            found = ask(lines, *calls, *queries)[10:]
            written = found[1][1:]
            if len(written) <= 3000:
                read_again += 1
                again = run((READ, written), *queries)
                phases = account.total - account.phases.count(0)
                self.assertEqual(again, [[0, 0, account.total, phases]] + found)
        self.assertGreater(read_again, 60)

    def test_all_that_is_told_of_it_is_the_same(self):
        dice = Random(55)
        queries = [(WRITE,), (OPEN,), (OUTLINE,), (EARLY,), (PULLED,), (ROUNDS,), (PLAN,)]
        queries += [(LEVEL, z) for z in range(5)] + [(NARROW, z, w) for z in range(5) for w in (1, 2, 3)]
        dug_since = 0
        for count in range(60):
            lines, calls, account = some_worked_mine(dice)
            blocks = [(BLOCK, block) for block in range(account.total)]
            found = ask(lines, *calls, *queries, *blocks)[len(calls):]
            written = found[0][1:]
            if len(written) <= 3000:
                again = run((READ, written), *queries, *blocks, (GRID,), (UNDO,))
                self.assertEqual(again[1:-2], found)
                # Only when they were dug is told otherwise: all by the text, none since.
                grid = account.grid()
                self.assertEqual(again[-2:], [grid[:7] + [len(account.dug), 0, grid[9]], [-6]])
                dug_since += len(account.since) > 0
        self.assertGreater(dug_since, 20)

    def test_a_text_that_is_written_longer_than_3000_is_written_whole(self):
        lines = ["grid 6 6 5 1 1 1", "phase 1 0 5 0 5 0 4"]
        for x in (0, 2, 4):
            lines.append(f"set 1 {x} {x} 0 5 0 4")
            lines.append(f"phase 2 {x} {x} 0 5 0 4")
        written = ask(lines, (WRITE,))[0]
        self.assertEqual(len(told(written)), 1 + 4 + 90 + 180)
        self.assertGreater(len(written), 3001)


if __name__ == "__main__":
    unittest.main()
