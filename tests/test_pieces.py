"""Pieces, and maps joined: point 10."""

import itertools
import unittest

from made import all_maps, chain, fresh, looped_roads, lone_roads, pieces_by_names, small_maps
from mapround.changes import done_all
from mapround.errors import TooMany, Twice
from mapround.pieces import joined, pieces
from mapround.turns import is_map


class PiecesTest(unittest.TestCase):

    def test_map_without_places(self):
        self.assertEqual(pieces([]), [])

    def test_places_without_roads(self):
        self.assertEqual(pieces([[]]), [[[]]])
        self.assertEqual(pieces([[], [], []]), [[[]], [[]], [[]]])

    def test_one_piece(self):
        for m in ([[-1, 1]], [[-1], [1]], [[-2, 1, 2, -1]], [[-3, 1], [-2, 3], [-1, 2]]):
            with self.subTest(m=m):
                self.assertEqual(pieces(m), [m])

    def test_several_pieces_in_the_order_of_their_first_places(self):
        m = [[], [-6], [-5, 5], [-4], [-3, 6], [-2], [-1, 4], [1, 2], [3]]
        self.assertEqual(pieces(m), [
            [[]],
            [[-6], [-3, 6], [3]],
            [[-5, 5]],
            [[-4], [-2], [-1, 4], [1, 2]],
        ])

    def test_pieces_whose_places_lie_between_each_other(self):
        self.assertEqual(pieces([[-2], [-1], [1], [2]]), [[[-2], [2]], [[-1], [1]]])
        self.assertEqual(pieces([[-2], [-1], [1, 2]]), [[[-2], [-1], [1, 2]]])

    def test_a_long_way(self):
        way = [[-64]] + [[-road, road + 1] for road in range(63, 0, -1)] + [[1]]
        self.assertEqual(pieces(way), [way])

    def test_at_the_bounds(self):
        m = [[]] * 128 + lone_roads(1, 64)
        self.assertEqual(pieces(m), [[[]]] * 128 + [[[-road], [road]] for road in range(64, 0, -1)])

    def test_small_maps(self):
        for m in small_maps():
            with self.subTest(m=m):
                found = pieces(m)
                self.assertEqual(found, pieces_by_names(m))
                self.assertTrue(all(is_map(piece) for piece in found))
                self.assertEqual(joined(found), m)

    def test_maps_made_by_changes(self):
        for seed in range(6):
            m = done_all(*chain(seed, 40))
            with self.subTest(m=m):
                self.assertEqual(pieces(m), pieces_by_names(m))
                self.assertEqual(joined(pieces(m)[::-1]), m)


class JoinedTest(unittest.TestCase):

    def refused(self, kind, fields, maps):
        with self.assertRaises(kind) as caught:
            joined(maps)
        self.assertIs(type(caught.exception), kind)
        self.assertEqual(vars(caught.exception), fields)

    def test_no_maps(self):
        self.assertEqual(joined([]), [])

    def test_maps_without_places_among_them(self):
        self.assertEqual(joined([[]]), [])
        self.assertEqual(joined([[], [], []]), [])
        self.assertEqual(joined([[], [[-1, 1]], [], [[]], []]), [[], [-1, 1]])

    def test_one_map(self):
        m = [[], [-2, 1], [-1, 2]]
        self.assertEqual(joined([m]), m)

    def test_good_order_whatever_the_order_of_the_maps(self):
        maps = [[[], [-3, 3]], [[-4], [4]], [[], [-2, 1], [-1, 2]]]
        for told in itertools.permutations(maps):
            self.assertEqual(joined(fresh(told)), [[], [], [-4], [-3, 3], [-2, 1], [-1, 2], [4]])

    def test_twice_tells_the_first_end_that_is_told_again(self):
        self.refused(Twice, {"end": -1}, [[[-1, 1]], [[-1, 1]]])
        self.refused(Twice, {"end": -7}, [[[-7, 7]], [[-9], [9]], [[-7], [7]]])
        self.refused(Twice, {"end": 2}, [[[-3, 3], [-2, 2]], [[-5, 5]], [[-4, 2], [-3], [-2, 3], [4]]])
        self.refused(Twice, {"end": -3}, [[[-3, -1, 3, 1], [-2, 2]], [[-4, 4], [-3, 2, 3, -2]]])
        self.refused(Twice, {"end": 2}, [[[-2], [2]], [[-3, 2, -2], [3]]])

    def test_twice_one_map_after_another(self):
        self.refused(Twice, {"end": -1}, [[[-1, 1]], [[-1], [1]], [[-5, 5]], [[-5, 5]]])
        self.refused(Twice, {"end": -5}, [[[-5, 5]], [[-5, 5]], [[-1, 1]], [[-1], [1]]])
        self.refused(Twice, {"end": -1}, [[[-1, 1]], [], [[]], [[-1, 1]]])

    def test_too_many_by_roads(self):
        self.assertEqual(joined([lone_roads(1, 32), lone_roads(33, 64)]), lone_roads(1, 64))
        self.refused(TooMany, {}, [lone_roads(1, 32), lone_roads(33, 65)])
        self.refused(TooMany, {}, [looped_roads(1, 64), [], looped_roads(65, 65)])

    def test_too_many_by_places_without_roads(self):
        self.assertEqual(joined([[[]] * 100, [[]] * 28]), [[]] * 128)
        self.refused(TooMany, {}, [[[]] * 128, [[]]])
        self.refused(TooMany, {}, [[[]]] * 129)

    def test_both_bounds_at_once(self):
        self.assertEqual(joined([lone_roads(1, 64), [[]] * 128]), [[]] * 128 + lone_roads(1, 64))
        self.refused(TooMany, {}, [[[], [-65, 65]], lone_roads(1, 64), [[]] * 127])

    def test_twice_comes_ahead_of_too_many(self):
        self.refused(Twice, {"end": -64}, [lone_roads(1, 64), lone_roads(64, 66)])
        self.refused(Twice, {"end": -1}, [[[]] * 128, [[], [-1, 1]], [[-1, 1]]])

    def test_small_maps(self):
        for one in all_maps(1, 1):
            for two in all_maps(2):
                apart = [[end + 5 if end > 0 else end - 5 for end in turn] for turn in two]
                apart = sorted(turn[turn.index(min(turn)):] + turn[:turn.index(min(turn))] for turn in apart)
                self.assertEqual(joined([one, apart]), sorted(one + apart))


if __name__ == "__main__":
    unittest.main()
