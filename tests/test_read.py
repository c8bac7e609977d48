"""Calls 0 and 1, read and look: texts and their faults."""

import unittest

from tests.helper import DIG, FAR, LOOK, OPEN, READ, WRITE, ask, run, text, told

GRID = "grid 3 2 2 10 10 1"


class GoodTexts(unittest.TestCase):
    def test_counts_blocks_and_phases(self):
        lines = [GRID, "phase 1 0 1 0 1 0 0", "phase 3 0 2 0 0 1 1", "phase 0 0 0 0 0 0 0"]
        self.assertEqual(run((READ, text(*lines))), [[0, 0, 12, 6]])
        self.assertEqual(run((LOOK, text(*lines))), [[0, 0, 12, 6]])

    def test_least_and_greatest_grid(self):
        self.assertEqual(run((READ, text("grid 1 1 1 1 1 1"))), [[0, 0, 1, 0]])
        self.assertEqual(run((READ, text("grid 6 6 5 10000 10000 4", "phase 2 0 5 0 5 0 4"))), [[0, 0, 180, 180]])

    def test_blanks_remarks_and_lines_without_words(self):
        lines = ["", "   ", "rem", "  rem slope 9 grid \t # ", "   grid  3   2 2 10 10  1   ", "", "rem"]
        self.assertEqual(run((READ, text(*lines))), [[0, 0, 12, 0]])

    def test_a_remark_may_hold_any_byte(self):
        others = [byte for byte in range(256) if byte != 10]
        self.assertEqual(run((READ, text("rem ") + others + text("", GRID))), [[0, 0, 12, 0]])

    def test_ends_of_all_ranges(self):
        lines = ["grid 6 6 5 10000 10000 4", "slope 3 1000 1 0 1000 0 1 1000 1000", "slope 0 0 1 0 1 0 1 0 1",
                 "set 3 0 5 0 5 0 4", "set 0 5 5 5 5 4 4", "phase 3 0 0 0 0 0 0", "phase 0 5 5 5 5 4 4",
                 "dug 5 5 5 5 0 0"]
        self.assertEqual(run((READ, text(*lines))), [[0, 0, 180, 1]])

    def test_later_lines_lie_over_earlier_ones(self):
        lines = [GRID, "set 1 0 2 0 1 0 1", "set 2 1 1 0 1 0 0", "phase 3 0 2 0 0 0 0", "phase 1 0 1 0 0 0 0",
                 "slope 1 2 1 2 1 2 1 2 1", "slope 1 3 4 5 6 7 8 9 10", "dug 0 0 0 0 0 0", "dug 2 2 0 0 0 0"]
        written = told(ask(lines, (WRITE,))[0])
        self.assertIn("slope 1 3 4 5 6 7 8 9 10", written)
        self.assertEqual([line for line in written if line.startswith("set")][:3],
                         ["set 1 0 0 0 0 0 0", "set 2 1 1 0 0 0 0", "set 1 2 2 0 0 0 0"])
        self.assertEqual(written[-4:], ["phase 1 0 1 0 0 0 0", "phase 3 2 2 0 0 0 0",
                                        "dug 0 0 0 0 0 0", "dug 2 2 0 0 0 0"])

    def test_phases_of_dug_blocks_count(self):
        self.assertEqual(run((READ, text(GRID, "dug 0 0 0 0 0 0", "phase 1 0 0 0 0 0 0"))), [[0, 0, 12, 1]])

    def test_slopes_count_as_they_are_at_the_end(self):
        lines = ["grid 3 1 2 10 10 1", "dug 1 1 0 0 0 1"]
        self.assertEqual(run((READ, text(*lines))), [[0, 8, 4, 0]])
        self.assertEqual(run((READ, text(*lines, "slope 0 0 1 0 1 0 1 0 1"))), [[0, 0, 6, 0]])
        self.assertEqual(run((READ, text(*lines, "slope 1 0 1 0 1 0 1 0 1", "set 1 1 1 0 0 1 1"))), [[0, 0, 6, 0]])


class Faults(unittest.TestCase):
    def faulty(self, fault, *lines):
        """Both calls tell this fault, and neither takes anything of the text."""
        found = run((READ, text(*lines)), (LOOK, text(*lines)), (OPEN,))
        self.assertEqual(found, [[0] + list(fault), [0] + list(fault), [-10]], lines)

    def test_kind_1_an_unknown_first_word(self):
        for line in ["grids 1 1 1 1 1 1", "Grid 1 1 1 1 1 1", "gri", "remark", "x", "0", "sets 0", "\tgrid", "grid\r",
                     "\r", "digs 0 0 0 0 0 0", "phas"]:
            self.faulty((1, 1, 1), line)
            self.faulty((1, 3, 1), GRID, "  ", " " + line)

    def test_kind_5_a_second_grid(self):
        self.faulty((5, 2, 1), GRID, GRID)
        self.faulty((5, 3, 1), GRID, "", "grid")
        self.faulty((5, 2, 1), GRID, "grid 9 x")

    def test_kind_4_no_grid_yet(self):
        for line in ["slope 0 1 1 1 1 1 1 1 1", "set 0 0 0 0 0 0 0", "phase 0 0 0 0 0 0 0", "dug 0 0 0 0 0 0",
                     "slope", "set x", "phase 9 9", "dug 0 0 0 0 0 0 0 0"]:
            self.faulty((4, 2, 1), "rem", line, GRID)

    def test_kind_2_too_many_or_too_few_words(self):
        for line in ["grid", "grid 3 2 2 10 10", "grid 3 2 2 10 10 1 1", "grid 9 x 2 10 10"]:
            self.faulty((2, 1, 0), line)
        for line in ["slope 0 1 1 1 1 1 1 1", "slope 0 1 1 1 1 1 1 1 1 1", "set 0 0 0 0 0 0", "set 0 0 0 0 0 0 0 0",
                     "phase 0 0 0 0 0 0", "phase 0 0 0 0 0 0 0 0", "dug 0 0 0 0 0", "dug 0 0 0 0 0 0 0", "dug x",
                     "slope", "set", "phase", "dug", "set 9 1 0 1 0 1"]:
            self.faulty((2, 2, 0), GRID, line)

    def check_ranges(self, before, name, bounds):
        """Each number just within its range is taken, just beyond it is a fault at its word."""
        good = [low for low, high in bounds]
        for place, (low, high) in enumerate(bounds):
            for wrong in [str(high + 1), "0" + str(high), "00", "-1", "+1", "x", "1x", "1.", "1000000", "0000001",
                          "1234567", "99999999999999999999"] + ([str(low - 1)] if low else []):
                words = [name] + [str(number) for number in good]
                words[place + 1] = wrong
                self.faulty((3, len(before) + 1, place + 2), *before, " ".join(words))

    def test_kind_3_grid(self):
        bounds = [(1, 6), (1, 6), (1, 5), (1, 10000), (1, 10000), (1, 4)]
        self.check_ranges([], "grid", bounds)

    def test_kind_3_slope(self):
        self.check_ranges([GRID], "slope", [(0, 3)] + [(0, 1000), (1, 1000)] * 4)

    def test_kind_3_boxes(self):
        for grid, box in [(GRID, [(0, 2), (0, 2), (0, 1), (0, 1), (0, 1), (0, 1)]),
                          ("grid 1 1 1 1 1 1", [(0, 0)] * 6),
                          ("grid 6 5 4 1 1 1", [(0, 5), (0, 5), (0, 4), (0, 4), (0, 3), (0, 3)])]:
            self.check_ranges([grid], "set", [(0, 3)] + box)
            self.check_ranges([grid], "phase", [(0, 3)] + box)
            self.check_ranges([grid], "dug", box)

    def test_kind_3_at_the_first_such_word(self):
        self.faulty((3, 1, 4), "grid 3 2 9 0 x 1")
        self.faulty((3, 1, 4), "grid 3 2 x 0 9 1")
        self.faulty((3, 2, 5), GRID, "set 0 1 0 9 0 0 9")

    def test_numbers_of_six_digits_are_numbers_out_of_range(self):
        self.faulty((3, 1, 5), "grid 3 2 2 100000 10 1")
        self.faulty((3, 1, 5), "grid 3 2 2 010000 10 1")
        self.faulty((3, 1, 5), "grid 3 2 2 0010000 10 1")

    def test_bytes_around_the_digits(self):
        for byte in (47, 58, 0, 9, 13, 255):
            found = run((READ, text("grid 3 2 2 10 10 ") + [byte]))
            self.assertEqual(found, [[0, 3, 1, 7]])
            # Taken for digits, some of these would tell a number within the range.
            for word in ([49, byte], [byte, 49], [49, byte, 49]):
                found = run((READ, text("grid 3 2 2 ") + word + text(" 10 1")))
                self.assertEqual(found, [[0, 3, 1, 5]], word)

    def test_kind_6_an_end_before_its_beginning(self):
        for name, shift in (("set 0", 0), ("phase 0", 0), ("dug", -1)):
            self.faulty((6, 2, 4 + shift), GRID, name + " 1 0 0 0 0 0")
            self.faulty((6, 2, 6 + shift), GRID, name + " 0 0 1 0 0 0")
            self.faulty((6, 2, 8 + shift), GRID, name + " 0 0 0 0 1 0")
            self.faulty((6, 2, 4 + shift), GRID, name + " 2 1 1 0 1 0")
            self.faulty((6, 2, 6 + shift), GRID, name + " 0 1 1 0 1 0")
            self.faulty((3, 2, 8 + shift), GRID, name + " 2 1 1 0 1 2")

    def test_kind_7_no_grid_at_all(self):
        for lines in [[""], ["", ""], ["   "], ["rem grid 1 1 1 1 1 1"], ["rem", "", " rem "]]:
            self.faulty((7, 0, 0), *lines)
        self.assertEqual(run((READ, []), (LOOK, [])), [[0, 7, 0, 0], [0, 7, 0, 0]])

    def test_kind_8_dug_blocks_lack_one(self):
        grid = "grid 3 3 3 10 10 1"
        self.faulty((8, 13, 1), grid, "dug 1 1 1 1 1 1")
        self.faulty((8, 13, 4), grid, "dug 0 2 0 0 0 0", "dug 0 0 0 2 0 0", "dug 1 1 1 1 1 1")
        self.faulty((8, 9, 0), grid, "dug 0 2 0 2 1 2")
        self.faulty((8, 22, 10), grid, "dug 0 2 0 2 0 0", "dug 1 1 1 1 2 2")
        self.assertEqual(run((READ, text(grid, "dug 0 2 0 2 0 0", "dug 1 1 1 1 1 1"))), [[0, 0, 27, 0]])

    def test_kind_8_looks_through_the_whole_reach(self):
        lines = ["slope 0 0 1 0 1 0 1 0 1", "slope 1 1 1 0 1 1 1 0 1", "set 1 1 1 0 0 2 2",
                 "dug 1 1 0 0 0 2"]
        self.faulty((8, 7, 0), "grid 3 1 3 10 10 2", *lines)
        self.faulty((8, 7, 3), "grid 3 1 3 10 10 1", *lines)
        self.faulty((8, 7, 3), "grid 3 1 3 10 10 2", *lines, "dug 0 2 0 0 0 0")

    def test_the_first_line_with_a_fault_is_told(self):
        self.faulty((3, 2, 2), GRID, "set 4 0 0 0 0 0 0", "nonsense")
        self.faulty((1, 2, 1), GRID, "nonsense", "set 4 0 0 0 0 0 0")
        self.faulty((1, 3, 1), GRID, "dug 0 0 0 0 1 1", "nonsense")
        self.faulty((1, 1, 1), "nonsense")


class TakenOrNot(unittest.TestCase):
    FIRST = (GRID, "phase 1 0 2 0 1 0 0")
    OTHER = ("grid 1 1 2 5 5 1", "phase 2 0 0 0 0 0 1")

    def test_a_fault_leaves_the_mine_as_it_was(self):
        faulty = [["x"], [""], [self.OTHER[0], "dug 0 0 0 0 1 1"], [self.OTHER[0], "phase 4 0 0 0 0 0 1"]]
        for lines in faulty:
            found = run((READ, text(*self.FIRST)), (DIG, 4), (WRITE,), (READ, text(*lines)), (WRITE,), (DIG, 2))
            self.assertNotEqual(found[3][1], 0)
            self.assertEqual(found[2], found[4])
            self.assertEqual(found[5], [0, 2])

    def test_look_changes_nothing(self):
        found = run((LOOK, text(*self.OTHER)), (OPEN,), (READ, text(*self.FIRST)), (DIG, 4), (WRITE,),
                    (LOOK, text(*self.OTHER)), (LOOK, text("x")), (WRITE,), (DIG, 2))
        self.assertEqual(found[:2], [[0, 0, 2, 2], [-10]])
        self.assertEqual(found[5:7], [[0, 0, 2, 2], [0, 1, 1, 1]])
        self.assertEqual(found[4], found[7])
        self.assertEqual(found[8], [0, 2])

    def test_read_takes_the_place_of_what_was(self):
        found = run((READ, text(*self.FIRST)), (DIG, 0), (READ, text(*self.OTHER)), (OPEN,), (DIG, 0), (OPEN,))
        self.assertEqual(found[2:], [[0, 0, 2, 2], [0, 0], [0, 1], [0, 1]])

    def test_a_text_knows_nothing_of_the_mine_before(self):
        found = run((READ, text(*self.FIRST)), (READ, text("dug 0 0 0 0 0 0")), (READ, text("grid 1 1 1 1 1 1")))
        self.assertEqual(found[1:], [[0, 4, 1, 1], [0, 0, 1, 0]])

    def test_3000_bytes_and_one_more(self):
        for call in (READ, LOOK):
            longest = text(GRID, "rem ".ljust(3000 - len(GRID) - 1, "x"))
            self.assertEqual(len(longest), 3000)
            self.assertEqual(run((call, longest), (call, longest + [32])), [[0, 0, 12, 0], [-1]])
            self.assertEqual(run((call, [10] * 3000), (call, [10] * 3001)), [[0, 7, 0, 0], [-1]])

    def test_numbers_that_are_no_bytes(self):
        for call in (READ, LOOK):
            for wrong in (-1, 256, 1000, FAR, -FAR):
                found = run((call, text(GRID, "rem ") + [wrong]), (call, [wrong]), (OPEN,))
                self.assertEqual(found, [[-1], [-1], [-10]])
            self.assertEqual(run((call, text("rem ") + [0, 255] + text("", GRID))), [[0, 0, 12, 0]])
            # A number that is no byte is looked at ahead of all faults.
            self.assertEqual(run((call, text("nonsense") + [256])), [[-1]])

    def test_a_refused_text_leaves_the_mine_as_it_was(self):
        found = run((READ, text(*self.FIRST)), (READ, text(*self.OTHER) + [256]), (READ, [32] * 3001), (WRITE,))
        self.assertEqual(found[1:3], [[-1], [-1]])
        self.assertEqual(told(found[3])[0], GRID)


if __name__ == "__main__":
    unittest.main()
