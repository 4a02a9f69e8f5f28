"""Drawings of maps, and the maps that are seen in them: points 36, 37, 38 and 39."""

import itertools
import unittest

from made import (
    alike_by_pieces, all_maps, answer, apart, chain_end, crossing_by_spots, drawing_by_cells, ends_in, flat_map,
    flat_maps, handed_round, handle_count, is_refusal, lone_roads, looked_at, looped_roads, loops_at_one_place,
    pieces_by_names, prism, refusal, ring, seen_by_looking, shuffled, small_maps, star, together, told_by_columns,
    walk_by_steps, way, wrapped_grid,
)
from mapround.likeness import compared
from mapround.sheets import drawing, seen
from mapround.turns import is_map

# Each drawing is told here cell by cell, with the map that is drawn and the map that is to be seen.
DRAWN = {
    "the map without places": ([], [], []),
    "one place": ([[]], ["="], [[]]),
    "three places": ([[], [], []], ["= = ="], [[], [], []]),
    "a road from a place to itself": ([[-7, 7]], [
        "===",
        "L-J",
    ], [[-1, 1]]),
    "a road between two places": ([[-7], [7]], [
        "===",
        "|  ",
        "===",
    ], [[-1], [1]]),
    "a side road, then a trunk road": ([[-2, 2, -1], [1]], [
        "=======",
        "| | |  ",
        "| | ===",
        "L-J    ",
    ], [[-2], [-1, 2, 1]]),
    "a trunk road, then a side road": ([[-2, 1, -1], [2]], [
        "=======",
        "|   | |",
        "=== | |",
        "    L-J",
    ], [[-2, 1, 2], [-1]]),
    "a side road round a trunk road": ([[-2, 1, 2], [-1]], [
        "=======",
        "| |   |",
        "| === |",
        "L-----J",
    ], [[-2], [-1, 1, 2]]),
    "two roads between two places": ([[-2, -1], [1, 2]], [
        "=======",
        "|     |",
        "===== |",
        "  L---J",
    ], [[-2, 1], [-1, 2]]),
    "a side road at the lower place": ([[-2], [-1, 1, 2]], [
        "=======",
        "|      ",
        "=======",
        "  L-J  ",
    ], [[-2, -1, 2], [1]]),
    "a way": ([[-3], [-2, 3], [-1, 2], [1]], [
        "===========",
        "|          ",
        "===========",
        "  |        ",
        "  =======  ",
        "    |      ",
        "    ===    ",
    ], [[-3], [-2, 3], [-1, 2], [1]]),
    "a star": ([[-3, -2, -1], [1], [2], [3]], [
        "===========",
        "|   |   |  ",
        "=== === ===",
    ], [[-3], [-2], [-1], [1, 2, 3]]),
    "a ring": ([[-3, 1], [-2, 3], [-1, 2]], [
        "===========",
        "|         |",
        "========= |",
        "  |       |",
        "  =====   |",
        "    L-----J",
    ], [[-3, 1], [-2, 3], [-1, 2]]),
    "side roads one within another": ([[-3, -2, -1, 1, 2, 3]], [
        "===========",
        "| | L-J | |",
        "| L-----J |",
        "L---------J",
    ], [[-3, -2, -1, 1, 2, 3]]),
    "side roads beside each other": ([[-3, 3, -2, 2, -1, 1]], [
        "===========",
        "L-J L-J L-J",
    ], [[-3, 1, -1, 2, -2, 3]]),
    "side roads beside each other and within another": ([[-4, -2, -1, 1, 2, -3, 3, 4]], [
        "===============",
        "| | L-J | L-J |",
        "| L-----J     |",
        "L-------------J",
    ], [[-4, -1, 1, 2, 3, -3, -2, 4]]),
    "trunk roads of two depths and side roads": ([[-5, 1, 2], [-4, 4, -1, 3], [-3], [-2, 5]], [
        "===================",
        "|     |           |",
        "===== =========== |",
        "  |     |   | |   |",
        "  |     === | |   |",
        "  |         L-J   |",
        "  L---------------J",
    ], [[-5, -3, 4, 5], [-4], [-2, 1, 3], [-1, 2]]),
    "pieces of unlike numbers of rows": ([[], [], [-9, 9], [-5], [-4, 4, 5]], [
        "= = === =======",
        "    L-J |      ",
        "        =======",
        "          L-J  ",
    ], [[], [], [-3, -2, 3], [-1, 1], [2]]),
    "a lower piece behind a higher one": ([[-9], [-8, 8], [9]], [
        "=== ===",
        "|   L-J",
        "===    ",
    ], [[-2, 2], [-1], [1]]),
    "pieces whose places lie among each other": ([[-9], [-8], [-7, 8], [7], [9]], [
        "=== =======",
        "|   |      ",
        "=== =======",
        "      |    ",
        "      ===  ",
    ], [[-3], [-2, 3], [-1], [1], [2]]),
}


def some_maps():
    """Maps without handles, those at the bounds of a map among them."""
    yield from flat_maps()
    for m in all_maps(3, 1):
        if handle_count(m) == 0:
            yield m


def big_maps():
    """Maps of 128 ends, or somewhat more, and of 128 places without roads."""
    yield from (way(64), star(64), ring(64), loops_at_one_place(64), prism(21), way(70))
    yield [list(range(-64, 0)) + list(range(1, 65))]
    yield [[]] * 128 + lone_roads(1, 64)
    yield [[]] * 128 + looped_roads(1, 64)
    yield from (flat_map(seed, places, 64) for seed, places in enumerate((12, 22, 40)))


class DrawingTest(unittest.TestCase):

    def test_each_cell_of_small_drawings(self):
        for name, (m, rows, _) in DRAWN.items():
            with self.subTest(name=name):
                self.assertTrue(is_map(m))
                self.assertEqual(drawing(m), rows)

    def test_places_without_roads(self):
        for many in (1, 2, 128, 140):
            self.assertEqual(drawing([[]] * many), [" ".join("=" * many)])

    def test_width_and_rows(self):
        for m in itertools.chain(some_maps(), big_maps()):
            rows = drawing(m)
            widths = [max(2 * sum(len(turn) for turn in piece) - 1, 1) for piece in pieces_by_names(m)]
            self.assertEqual({len(row) for row in rows}, {sum(widths) + len(widths) - 1} if m else set())
            # No row is there that none of the pieces needs.
            self.assertTrue(all(row.strip() for row in rows), m)

    def test_one_column_of_blanks_between_two_pieces(self):
        m = together([[]], [[-9, 9]], [[-4], [4]], apart(ring(3), 10))
        left = 0
        for piece in pieces_by_names(m):
            alone = drawing(piece)
            width = len(alone[0])
            part = [row[left:left + width] for row in drawing(m)]
            self.assertEqual(part, alone + [" " * width] * (len(part) - len(alone)))
            left += width + 1
            self.assertLessEqual({row[left - 1:left] for row in drawing(m)}, {" ", ""})

    def test_many_maps_cell_by_cell(self):
        for m in some_maps():
            self.assertEqual(drawing(m), drawing_by_cells(m))

    def test_at_the_bounds(self):
        for m in big_maps():
            self.assertEqual(drawing(m), drawing_by_cells(m))

    def test_heights(self):
        # 64 roads one within another come one below another.
        nested = [list(range(-64, 0)) + list(range(1, 65))]
        rows = drawing(nested)
        self.assertEqual(len(rows), 65)
        self.assertEqual(rows[64], "L" + "-" * 253 + "J")
        self.assertEqual(rows[1], "| " * 63 + "L-J" + " |" * 63)
        beside = [[end for road in range(64, 0, -1) for end in (-road, road)]]
        self.assertEqual(drawing(beside), ["=" * 255, " ".join(["L-J"] * 64)])

    def test_depths(self):
        rows = drawing(way(64))
        self.assertEqual(len(rows), 129)
        self.assertEqual(rows[128], " " * 126 + "===" + " " * 126)
        middle_first = [list(range(-64, 0))] + [[road] for road in range(1, 65)]
        self.assertEqual(drawing(middle_first), ["=" * 255, "|   " * 63 + "|  ", " ".join(["==="] * 64)])


class CrossedTest(unittest.TestCase):

    def test_two_roads_at_one_place(self):
        self.assertEqual(answer(drawing, [[-2, 1, 2, -1]]), refusal("Crossed", one=2, two=1))
        self.assertEqual(answer(drawing, [[-9, 4, 9, -4]]), refusal("Crossed", one=9, two=4))

    def test_roads_between_places(self):
        self.assertEqual(answer(drawing, [[-3, -1, -2], [1, 2, 3]]), refusal("Crossed", one=1, two=2))

    def test_in_the_first_of_the_pieces_where_two_cross(self):
        self.assertEqual(answer(drawing, [[], [-9, 9], [-2, 1, 2, -1]]), refusal("Crossed", one=2, two=1))
        self.assertEqual(answer(drawing, [[], [-4, 3, 4, -3], [-2, 1, 2, -1]]), refusal("Crossed", one=4, two=3))
        self.assertEqual(answer(drawing, [[-9], [-4, 3, 4, -3], [-2, 1, 2, -1, 9]]), refusal("Crossed", one=2, two=1))

    def test_big_maps(self):
        for m in (handed_round(32), wrapped_grid(4, 8), together([[]] * 128, looped_roads(3, 64), handed_round(1))):
            found = [crossing_by_spots(walk_by_steps(piece)) for piece in pieces_by_names(m)]
            one, two = [told for told in found if told][0]
            self.assertEqual(answer(drawing, m), refusal("Crossed", one=one, two=two))

    def test_many_maps(self):
        refused = 0
        maps = itertools.chain(small_maps(), all_maps(3), (chain_end(seed, 40)[1] for seed in range(400, 430)))
        for m in maps:
            told = answer(drawing, m)
            self.assertEqual(is_refusal(told), handle_count(m) > 0)
            if is_refusal(told):
                refused += 1
                found = [crossing_by_spots(walk_by_steps(piece)) for piece in pieces_by_names(m)]
                one, two = [crossed for crossed in found if crossed][0]
                self.assertEqual(told, refusal("Crossed", one=one, two=two))
        self.assertGreater(refused, 100)


class ShownTest(unittest.TestCase):
    """What a drawing shows: point 38. Whoever looks at it follows each road from cell to cell."""

    def test_roads_meet_nowhere_but_at_places(self):
        for m in itertools.chain(some_maps(), big_maps()):
            bars, roads = looked_at(drawing(m))
            self.assertEqual((len(bars), len(roads)), (len(m), sum(len(turn) for turn in m) // 2))
            self.assertTrue(all(len(above) <= 1 for _, _, above in bars))

    def test_round_each_place_the_ends_stand_in_their_turn(self):
        for m in itertools.chain(some_maps(), big_maps()):
            self.assertEqual(told_by_columns(m, drawing(m)), sorted(m))


class SeenTest(unittest.TestCase):

    def test_small_drawings(self):
        for name, (_, rows, expected) in DRAWN.items():
            with self.subTest(name=name):
                self.assertTrue(is_map(expected))
                self.assertEqual(seen(rows), expected)

    def test_no_rows(self):
        self.assertEqual(seen([]), [])

    def test_numbers_go_by_columns_whatever_the_roads_are(self):
        # The trunk roads stand at 0 and 6 and 8, the first corners at 2 and 12.
        rows = DRAWN["trunk roads of two depths and side roads"][1]
        self.assertEqual(seen(rows), [[-5, -3, 4, 5], [-4], [-2, 1, 3], [-1, 2]])
        # A second drawing beside it goes on with the numbers.
        beside = [row + " " + other for row, other in zip(rows, ["===", "L-J"] + ["   "] * 5)]
        self.assertEqual(seen(beside), [[-6, 6], [-5, -3, 4, 5], [-4], [-2, 1, 3], [-1, 2]])

    def test_alike_the_map_that_was_drawn(self):
        for m in some_maps():
            n = seen(drawing(m))
            self.assertTrue(is_map(n), m)
            self.assertEqual(compared(m, n)[0], "alike")
            self.assertTrue(alike_by_pieces(m, n))

    def test_many_drawings(self):
        for m in itertools.chain(some_maps(), big_maps()):
            rows = drawing(m)
            self.assertEqual(seen(rows), seen_by_looking(rows))

    def test_at_the_bounds(self):
        for m in (way(64), star(64), ring(64), prism(21), loops_at_one_place(64), flat_map(1, 22, 64)):
            n = seen(drawing(shuffled(m, 5)))
            self.assertEqual(sorted(ends_in(n))[len(ends_in(n)) // 2:], list(range(1, len(ends_in(m)) // 2 + 1)))
            self.assertEqual(compared(m, n)[0], "alike")

    def test_what_is_seen_can_be_drawn_again(self):
        for m in itertools.islice(some_maps(), 0, None, 5):
            n = seen(drawing(seen(drawing(m))))
            self.assertEqual(compared(m, n)[0], "alike")


if __name__ == "__main__":
    unittest.main()
