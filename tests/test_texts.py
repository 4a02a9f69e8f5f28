"""Maps written and read as texts: point 9."""

import itertools
import unittest

from mapround.errors import BadRow, Lone, TooMany, Twice
from mapround.texts import read, shown

SIXTY = "9" * 60
BAD_ROWS = [
    "", " ", "  ",
    "1  2", " 1", "1 ", " .", ". ", "1 -1 ",
    "..", ". .", ". 1", "1 .", ".1", "1.", "-.",
    "0", "-0", "00", "01", "-01", "1 02", "0" * 60,
    "-", "- 1", "1 -", "--1", "1-", "1-1", "-1-",
    "+1", "+", "1 +2", "-+1", "+-1",
    "1_0", "_1", "1_", "_",
    "a", "1a", "0x1", "1e3", "1,2", "1/2", "1:2", "1;2",
    "1\t2", "1\n", "\n1", "1\n2", "\t", "1\u00a02", "1\u2003", "\u2003.",
    "\u0661", "1\u0662", "\u00b2", "1\u00b2", "\uff11", "\u2460", "\u22121", "\u4e00",
    SIXTY + "9", "-" + SIXTY + "9", "1 " + "1" + "0" * 60, "1" * 5000, "-" + "1" * 5000,
]


class ShownTest(unittest.TestCase):

    def test_map_without_places(self):
        self.assertEqual(shown([]), [])

    def test_places_without_roads(self):
        self.assertEqual(shown([[]]), ["."])
        self.assertEqual(shown([[], [], [-1, 1]]), [".", ".", "-1 1"])

    def test_ends_in_their_order(self):
        self.assertEqual(shown([[-10, 3, 2], [-3], [-2, 10]]), ["-10 3 2", "-3", "-2 10"])

    def test_sixty_figures(self):
        end = int(SIXTY)
        self.assertEqual(shown([[-end, end]]), ["-" + SIXTY + " " + SIXTY])


class ReadTest(unittest.TestCase):

    def refused(self, kind, fields, rows):
        with self.assertRaises(kind) as caught:
            read(rows)
        self.assertIs(type(caught.exception), kind)
        self.assertEqual(vars(caught.exception), fields)

    def test_map_without_places(self):
        self.assertEqual(read([]), [])

    def test_places_without_roads(self):
        self.assertEqual(read(["."]), [[]])
        self.assertEqual(read([".", "-1 1", "."]), [[], [], [-1, 1]])

    def test_ends_below_nought(self):
        self.assertEqual(read(["-1 -2", "1", "2"]), [[-2, -1], [1], [2]])

    def test_all_figures(self):
        self.assertEqual(read(["1234567890", "-1234567890"]), [[-1234567890], [1234567890]])

    def test_sixty_figures(self):
        end = int(SIXTY)
        self.assertEqual(read([SIXTY, "-" + SIXTY]), [[-end], [end]])
        self.assertEqual(read(["1" + "0" * 59 + " -1" + "0" * 59]), [[-10 ** 59, 10 ** 59]])

    def test_any_order(self):
        rows = [".", "-3 1 2", "-2", "-1 3"]
        for told in itertools.permutations(rows):
            self.assertEqual(read(list(told)), [[], [-3, 1, 2], [-2], [-1, 3]])

    def test_any_beginning(self):
        for row in ("-3 1 2", "1 2 -3", "2 -3 1"):
            self.assertEqual(read([row, "3 -1", "-2"]), [[-3, 1, 2], [-2], [-1, 3]])

    def test_what_was_shown_is_read(self):
        for m in ([], [[]], [[], [-2, 1], [-1, 2]], [[-5, 3, 5, -3]], [[-10], [-9, 9, 10]]):
            self.assertEqual(read(shown(m)), m)

    def test_bad_rows(self):
        for row in BAD_ROWS:
            with self.subTest(row=row[:70]):
                self.refused(BadRow, {"row": 0}, [row])
                self.refused(BadRow, {"row": 2}, ["1", "-1", row])

    def test_the_first_bad_row_is_told(self):
        self.refused(BadRow, {"row": 1}, [".", "0", ""])
        self.refused(BadRow, {"row": 1}, [".", "+1", ".", "0", "."])
        self.refused(BadRow, {"row": 3}, [".", "1", "-1", "", "1 1"])

    def test_bad_row_comes_ahead_of_the_refusals_of_turns(self):
        self.refused(BadRow, {"row": 1}, ["1 1", ""])
        self.refused(BadRow, {"row": 1}, ["1", "0"])
        self.refused(BadRow, {"row": 129}, ["."] * 129 + [" "])
        self.refused(BadRow, {"row": 130}, [str(end) for end in range(1, 131)] + ["-"])

    def test_refusals_of_turns(self):
        self.refused(Twice, {"end": 1}, ["3 1 1"])
        self.refused(Twice, {"end": -2}, ["-2 1", "-1 2", "-2"])
        self.refused(Lone, {"end": 3}, ["1 -1", ".", "3 -4"])
        self.refused(TooMany, {}, ["."] * 129)

    def test_bounds(self):
        roads = [[f"{road}", f"-{road}"] for road in range(1, 66)]
        rows = [" ".join(ends) for ends in roads]
        self.assertEqual(len(read(rows[:64])), 64)
        self.refused(TooMany, {}, rows)
        self.assertEqual(len(read(rows[:64] + ["."] * 128)), 192)
        self.refused(TooMany, {}, rows[:64] + ["."] * 129)


if __name__ == "__main__":
    unittest.main()
