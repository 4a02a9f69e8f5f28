"""Rounds, their codes, and the codes of maps: points 25 and 26."""

import unittest

from made import (
    all_maps, answer, apart, chain, code_by_list, ends_in, fresh, is_refusal, least_by_list, lone_roads,
    loops_at_one_place, looped_roads, pieces_by_names, prism, refusal, renamed, ring, round_by_list, shuffled,
    small_maps, together, way, wrapped_grid,
)
from mapround.changes import done_all
from mapround.codes import codes, least_code, round_code, round_ends

BARE_CODE = ((),)
LOOP_CODE = ((1, 0),)
ROAD_CODE = ((1,), (0,))


class RoundTest(unittest.TestCase):

    def told(self, m, end, ends, code):
        self.assertEqual(round_ends(m, end), ends)
        self.assertEqual(round_code(m, end), code)

    def test_a_road_from_a_place_to_itself(self):
        self.told([[-1, 1]], 1, [1, -1], LOOP_CODE)
        self.told([[-1, 1]], -1, [-1, 1], LOOP_CODE)

    def test_a_road_between_two_places(self):
        self.told([[-1], [1]], 1, [1, -1], ROAD_CODE)
        self.told([[-1], [1]], -1, [-1, 1], ROAD_CODE)

    def test_one_place(self):
        m = [[-2, 2, -1, 3, 1, -3]]
        self.told(m, 2, [2, -1, 3, 1, -3, -2], ((5, 3, 4, 1, 2, 0),))
        self.told(m, -1, [-1, 3, 1, -3, -2, 2], ((2, 3, 0, 1, 5, 4),))

    def test_the_first_turn_begins_with_the_end_and_the_others_with_the_ends_by_which_one_comes(self):
        m = [[-4, 1, 2], [-3, 4, -1], [-2, 3]]
        self.told(m, 2, [2, -4, 1, -2, 3, 4, -1, -3], ((3, 5, 6), (0, 7), (1, 2, 4)))
        self.told(m, 4, [4, -1, -3, -4, 1, 2, 3, -2], ((3, 4, 6), (0, 1, 7), (2, 5)))

    def test_places_come_in_the_order_of_the_list(self):
        m = [[-5], [-4], [-3, 4, 5], [-2], [-1], [1, 2, 3]]
        self.told(m, 2, [2, 3, 1, -2, -3, 4, 5, -1, -4, -5], ((3, 4, 7), (0,), (1, 8, 9), (2,), (5,), (6,)))
        self.told(m, -5, [-5, 5, -3, 4, 3, 1, 2, -4, -1, -2], ((1,), (0, 4, 7), (2, 8, 9), (3,), (5,), (6,)))

    def test_only_the_piece_of_the_end(self):
        m = [[], [], [-4, 4], [-3], [-2, 1], [-1, 2], [3]]
        self.told(m, 4, [4, -4], LOOP_CODE)
        self.told(m, -3, [-3, 3], ROAD_CODE)
        self.told(m, 2, [2, -1, -2, 1], ((2, 3), (0, 1)))

    def test_other_names_leave_the_code(self):
        m = [[-4, 1, 2], [-3, 4, -1], [-2, 3]]
        names = {1: -7, 2: 10 ** 60 - 1, 3: 1, 4: -2}
        other = renamed(m, names)
        self.assertNotEqual(other, m)
        for road, name in names.items():
            self.assertEqual(round_code(other, name), round_code(m, road))
            self.assertEqual(round_code(other, -name), round_code(m, -road))

    def test_refused(self):
        for m in ([], [[]], [[], []], [[-1, 1]], [[], [-2], [2]], looped_roads(1, 64)):
            for end in (0, 70, -70, 10 ** 60, -10 ** 70):
                with self.subTest(m=m, end=end):
                    self.assertEqual(answer(round_ends, m, end), refusal("NotThere", end=end))
                    self.assertEqual(answer(round_code, m, end), refusal("NotThere", end=end))
        self.assertEqual(answer(round_ends, [[-2], [2]], 1), refusal("NotThere", end=1))
        self.assertEqual(answer(round_code, [[-2], [2]], -1), refusal("NotThere", end=-1))

    def test_at_the_bounds(self):
        long = way(64)
        self.assertEqual(round_ends(long, 1), [end for k in range(1, 65) for end in (k, -k)])
        self.assertEqual(round_code(long, 1)[:3], ((1,), (0, 3), (2, 5)))
        self.assertEqual(len(round_code(long, 32)), 65)
        loops = loops_at_one_place(64)
        self.assertEqual(round_code(loops, 7), (tuple(spot ^ 1 for spot in range(128)),))

    def test_small_maps(self):
        for m in small_maps():
            for end in ends_in(m):
                turns = round_by_list(m, end)
                self.told(m, end, ends_in(turns), code_by_list(m, end))

    def test_maps_made_by_changes(self):
        for seed in range(200, 208):
            m = done_all(*chain(seed, 60))
            for end in ends_in(m):
                self.told(m, end, ends_in(round_by_list(m, end)), code_by_list(m, end))

    def test_the_round_has_each_end_of_the_piece_once(self):
        for m in (prism(5), wrapped_grid(3, 4), together(ring(4), apart(prism(3), 20))):
            for piece in pieces_by_names(m):
                for end in ends_in(piece):
                    self.assertEqual(sorted(round_ends(m, end)), sorted(ends_in(piece)))
                    self.assertEqual(round_ends(m, end)[0], end)
                    self.assertEqual(round_code(m, end), round_code(piece, end))


class LeastCodeTest(unittest.TestCase):

    def test_one_place_without_roads(self):
        self.assertEqual(least_code([[]]), BARE_CODE)

    def test_one_road(self):
        self.assertEqual(least_code([[-1, 1]]), LOOP_CODE)
        self.assertEqual(least_code([[-1], [1]]), ROAD_CODE)

    def test_the_least_of_unlike_codes(self):
        self.assertEqual(least_code([[-2], [-1, 2], [1]]), ((1,), (0, 3), (2,)))
        self.assertEqual(least_code([[-2, 2, -1], [1]]), ((1,), (0, 3, 2)))
        self.assertEqual(least_code([[-2, 1, 2, -1]]), ((2, 3, 0, 1),))
        self.assertEqual(least_code([[-2, 2, -1, 3, 1, -3]]), ((1, 0, 4, 5, 2, 3),))

    def test_the_turn_that_ends_earlier_is_less(self):
        m = [[-2, 2, -1], [1]]
        self.assertEqual(round_code(m, -2), ((1, 0, 3), (2,)))
        self.assertEqual(round_code(m, 1), ((1,), (0, 3, 2)))
        self.assertEqual(least_code(m), ((1,), (0, 3, 2)))
        self.assertEqual(least_code([[-3], [-2, 1], [-1, 2, 3]]), ((1,), (0, 4, 5), (2, 3)))

    def test_not_one_piece(self):
        for m in ([], [[], []], [[], [-1, 1]], [[-2, 2], [-1, 1]], [[-2], [-1], [1], [2]], [[]] * 128):
            with self.subTest(m=m):
                self.assertEqual(answer(least_code, m), refusal("NotOnePiece"))

    def test_names_leave_the_code(self):
        for m in (prism(4), wrapped_grid(2, 3), way(9), [[-4, 1, 2], [-3, 4, -1], [-2, 3]]):
            for seed in range(5):
                self.assertEqual(least_code(shuffled(m, seed)), least_code(m))

    def test_every_map_of_at_most_three_roads(self):
        for roads in (1, 2, 3):
            for m in all_maps(roads):
                one = len(pieces_by_names(m)) == 1
                expected = least_by_list(m)[0] if one else refusal("NotOnePiece")
                self.assertEqual(answer(least_code, m), expected)

    def test_at_the_bounds(self):
        self.assertEqual(least_code(loops_at_one_place(64)), (tuple(spot ^ 1 for spot in range(128)),))
        self.assertEqual(least_code(way(64)), round_code(way(64), 1))
        self.assertEqual(least_code(wrapped_grid(4, 8)), least_by_list(wrapped_grid(4, 8))[0])


class CodesTest(unittest.TestCase):

    def test_map_without_places(self):
        self.assertEqual(codes([]), [])

    def test_one_piece(self):
        self.assertEqual(codes([[]]), [BARE_CODE])
        self.assertEqual(codes([[-1, 1]]), [LOOP_CODE])

    def test_several_pieces_sorted(self):
        m = [[], [], [-5, 5], [-4], [-3, 3], [-2, 1], [-1, 2], [4]]
        self.assertEqual(codes(m), [BARE_CODE, BARE_CODE, ROAD_CODE, LOOP_CODE, LOOP_CODE, ((2, 3), (0, 1))])

    def test_at_the_bounds(self):
        self.assertEqual(codes([[]] * 128), [BARE_CODE] * 128)
        self.assertEqual(codes([[]] * 128 + lone_roads(1, 64)), [BARE_CODE] * 128 + [ROAD_CODE] * 64)

    def test_small_maps(self):
        for m in small_maps():
            expected = sorted(least_by_list(piece)[0] for piece in pieces_by_names(m))
            self.assertEqual(codes(m), expected)
            self.assertEqual(answer(least_code, m), expected[0] if len(expected) == 1 else refusal("NotOnePiece"))

    def test_maps_made_by_changes(self):
        for seed in range(210, 218):
            m = done_all(*chain(seed, 50))
            self.assertEqual(codes(m), sorted(least_by_list(piece)[0] for piece in pieces_by_names(m)))
            self.assertEqual(codes(shuffled(m, seed)), codes(m))
            self.assertEqual(is_refusal(answer(least_code, fresh(m))), len(codes(m)) != 1)


if __name__ == "__main__":
    unittest.main()
