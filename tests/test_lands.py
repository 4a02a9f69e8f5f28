"""Lands, the other map, handles, counts and the mirrored map: points 11 to 15."""

import unittest

from made import all_maps, chain, looped_roads, lone_roads, mirror_by_steps, other_by_steps, small_maps
from mapround.changes import done_all
from mapround.errors import NotThere
from mapround.lands import counts, handles, land_of, lands, mirror, onward
from mapround.pieces import joined, pieces
from mapround.turns import after, ends_of, is_map, map_of, turned

LOOP = [[-1, 1]]
WAY = [[-1], [1]]
RING = [[-2, 1], [-1, 2]]
# Two roads from one place to itself, one across the other.
HANDLE = [[-2, 1, 2, -1]]
TWO_HANDLES = [[-4, 1, 2, -1, -2, 3, 4, -3]]
# Four places, a road between each two: without handles, and with other turns.
FOUR = map_of([[1, 2, 3], [4, -1, 5], [6, -2, -4], [-5, -3, -6]])
FOUR_TWISTED = map_of([[1, 2, 3], [-1, 4, 5], [-2, 6, -4], [-3, -5, -6]])
# Places 0 and 1 are bare; road 4 leads from place 2 to itself.
SAMPLE = [[], [], [-4, 4, -1], [-3, 1, 2], [-2], [3]]
MAPS = [[], [[]], [[], []], LOOP, WAY, RING, HANDLE, TWO_HANDLES, FOUR, FOUR_TWISTED, SAMPLE]


class Refusing(unittest.TestCase):

    def refused(self, number, function, *things):
        with self.assertRaises(NotThere) as caught:
            function(*things)
        self.assertIs(type(caught.exception), NotThere)
        self.assertEqual(vars(caught.exception), {"end": number})


class OnwardTest(Refusing):

    def test_a_road_from_a_place_to_itself(self):
        self.assertEqual([onward(LOOP, end) for end in (1, -1)], [1, -1])
        self.assertEqual([onward(HANDLE, end) for end in (1, -2, -1, 2)], [-2, -1, 2, 1])

    def test_a_road_between_two_places(self):
        self.assertEqual([onward(WAY, end) for end in (1, -1)], [-1, 1])
        self.assertEqual([onward(RING, end) for end in (1, 2, -1, -2)], [2, 1, -2, -1])

    def test_each_end_of_a_bigger_map(self):
        steps = [-4, -1, 2, -2, -3, 3, 1, -4]
        for end, step in list(zip(steps, steps[1:])) + [(4, 4)]:
            with self.subTest(end=end):
                self.assertEqual(onward(SAMPLE, end), step)

    def test_it_is_the_one_after_the_other_end(self):
        for m in MAPS:
            for end in ends_of(m):
                with self.subTest(m=m, end=end):
                    self.assertEqual(onward(m, end), after(m, -end))

    def test_not_there(self):
        for function in (onward, land_of):
            for m in MAPS:
                for number in (0, 9, -9, 10 ** 60, -10 ** 60, 10 ** 5000):
                    with self.subTest(function=function, m=m, bits=number.bit_length()):
                        self.refused(number, function, m, number)


class LandOfTest(unittest.TestCase):

    def test_a_road_from_a_place_to_itself(self):
        self.assertEqual(land_of(LOOP, 1), [1])
        self.assertEqual(land_of(LOOP, -1), [-1])

    def test_a_road_between_two_places(self):
        self.assertEqual(land_of(WAY, 1), [-1, 1])
        self.assertEqual(land_of(WAY, -1), [-1, 1])

    def test_good_order_from_whatever_end(self):
        for end in (-4, -1, 2, -2, -3, 3, 1):
            with self.subTest(end=end):
                self.assertEqual(land_of(SAMPLE, end), [-4, -1, 2, -2, -3, 3, 1])
        self.assertEqual(land_of(SAMPLE, 4), [4])
        for end in (1, -2, -1, 2):
            self.assertEqual(land_of(HANDLE, end), [-2, -1, 2, 1])

    def test_the_land_is_the_one_of_the_other_map_with_that_end(self):
        for m in MAPS:
            for end in ends_of(m):
                with self.subTest(m=m, end=end):
                    self.assertEqual([land_of(m, end)], [land for land in lands(m) if end in land])


class LandsTest(unittest.TestCase):

    def test_map_without_places(self):
        self.assertEqual(lands([]), [])

    def test_places_without_roads(self):
        self.assertEqual(lands([[]]), [[]])
        self.assertEqual(lands([[], [], []]), [[], [], []])
        self.assertEqual(lands([[], [], [-1, 1]]), [[], [], [-1], [1]])

    def test_one_road(self):
        self.assertEqual(lands(LOOP), WAY)
        self.assertEqual(lands(WAY), LOOP)

    def test_bigger_maps(self):
        self.assertEqual(lands(RING), [[-2, -1], [1, 2]])
        self.assertEqual(lands(HANDLE), [[-2, -1, 2, 1]])
        self.assertEqual(lands(SAMPLE), [[], [], [-4, -1, 2, -2, -3, 3, 1], [4]])
        self.assertEqual(lands(FOUR), [[-6, -2, 3], [-5, 4, 6], [-4, -1, 2], [-3, 1, 5]])
        self.assertEqual(lands(FOUR_TWISTED), [[-6, -4, 5], [-5, -1, 2, 6, -3, 1, 4, -2, 3]])

    def test_at_the_bounds(self):
        m = [[]] * 128 + lone_roads(1, 64)
        self.assertEqual(lands(m), [[]] * 128 + looped_roads(1, 64))
        self.assertEqual(lands(lands(m)), m)

    def test_nothing_is_refused_beyond_the_bounds(self):
        m = [[]] * 130 + lone_roads(1, 66)
        self.assertEqual(lands(m), [[]] * 130 + looped_roads(1, 66))
        self.assertEqual(lands([[-10 ** 60, 10 ** 60]]), [[-10 ** 60], [10 ** 60]])
        self.assertEqual(mirror(m), m)
        self.assertEqual(counts(m), (262, 66, 196, 196, 0))

    def test_good_order(self):
        for m in list(small_maps()) + MAPS:
            with self.subTest(m=m):
                self.assertTrue(is_map(lands(m)))
                self.assertEqual(ends_of(lands(m)), ends_of(m))
                self.assertEqual(lands(m), other_by_steps(m))

    def test_the_other_maps_other_map(self):
        for m in list(small_maps()) + MAPS:
            with self.subTest(m=m):
                self.assertEqual(lands(lands(m)), m)

    def test_the_other_map_has_as_many_pieces_and_handles(self):
        for m in list(small_maps()) + MAPS:
            with self.subTest(m=m):
                places, roads, land_count, piece_count, handle_count = counts(m)
                self.assertEqual(counts(lands(m)), (land_count, roads, places, piece_count, handle_count))


class HandlesAndCountsTest(unittest.TestCase):

    def both(self, m, expected):
        self.assertEqual(counts(m), expected)
        self.assertEqual(handles(m), expected[4])

    def test_map_without_places(self):
        self.both([], (0, 0, 0, 0, 0))

    def test_places_without_roads(self):
        self.both([[]], (1, 0, 1, 1, 0))
        self.both([[], [], []], (3, 0, 3, 3, 0))

    def test_no_handles(self):
        self.both(LOOP, (1, 1, 2, 1, 0))
        self.both(WAY, (2, 1, 1, 1, 0))
        self.both(RING, (2, 2, 2, 1, 0))
        self.both(FOUR, (4, 6, 4, 1, 0))
        self.both(SAMPLE, (6, 4, 4, 3, 0))

    def test_one_handle(self):
        self.both(HANDLE, (1, 2, 1, 1, 1))
        self.both([[]] + HANDLE, (2, 2, 2, 2, 1))
        self.both(FOUR_TWISTED, (4, 6, 2, 1, 1))
        self.both(map_of([[1, 2, 3], [-1, -2, -3]]), (2, 3, 1, 1, 1))

    def test_two_handles(self):
        self.both(TWO_HANDLES, (1, 4, 1, 1, 2))
        self.both(map_of([[1, 2, 3, 4, -1, -2, -3, -4]]), (1, 4, 1, 1, 2))

    def test_handles_in_two_pieces(self):
        apart = [[-8, 7, 8, -7]]
        self.both(joined([HANDLE, apart]), (2, 4, 2, 2, 2))
        self.both(joined([HANDLE, apart, [[], [-9, 9]]]), (4, 5, 5, 4, 2))

    def test_many_handles(self):
        turn = [sign * road for k in range(32) for sign in (1, -1) for road in (2 * k + 1, 2 * k + 2)]
        self.both(map_of([turn]), (1, 64, 1, 1, 32))

    def test_the_sum(self):
        for m in list(small_maps()) + list(all_maps(3)):
            with self.subTest(m=m):
                places, roads, land_count, piece_count, handle_count = counts(m)
                self.assertEqual(places, len(m))
                self.assertEqual(roads, len(ends_of(m)) // 2)
                self.assertEqual(land_count, len(other_by_steps(m)))
                self.assertEqual(piece_count, len(pieces(m)))
                self.assertEqual(places - roads + land_count, 2 * piece_count - 2 * handle_count)
                self.assertGreaterEqual(handle_count, 0)
                self.assertEqual(handles(m), handle_count)

    def test_the_handles_of_all_pieces_are_those_of_the_map(self):
        for seed in range(10):
            m = done_all(*chain(seed, 40))
            with self.subTest(m=m):
                self.assertEqual(handles(m), sum(handles(piece) for piece in pieces(m)))


class MirrorTest(unittest.TestCase):

    def test_map_without_places(self):
        self.assertEqual(mirror([]), [])

    def test_turns_of_no_end_one_and_two_stay(self):
        for m in ([[]], [[], []], WAY, LOOP, RING, [[], [-2, 1], [-1, 2]]):
            with self.subTest(m=m):
                self.assertEqual(mirror(m), m)

    def test_turns_of_more_ends(self):
        self.assertEqual(mirror(HANDLE), [[-2, -1, 2, 1]])
        self.assertEqual(mirror([[-3, 1, 2], [-2], [-1, 3]]), [[-3, 2, 1], [-2], [-1, 3]])
        self.assertEqual(mirror(SAMPLE), [[], [], [-4, -1, 4], [-3, 2, 1], [-2], [3]])

    def test_mirrored_twice(self):
        for m in list(small_maps()) + MAPS:
            with self.subTest(m=m):
                self.assertTrue(is_map(mirror(m)))
                self.assertEqual(mirror(m), mirror_by_steps(m))
                self.assertEqual(mirror(mirror(m)), m)

    def test_the_lands_of_the_mirrored_map(self):
        for m in list(small_maps()) + MAPS:
            with self.subTest(m=m):
                gone = [turned([-end for end in reversed(land)]) for land in lands(m)]
                self.assertEqual(lands(mirror(m)), sorted(gone))

    def test_it_has_the_same_counts(self):
        for m in list(small_maps()) + MAPS:
            with self.subTest(m=m):
                self.assertEqual(counts(mirror(m)), counts(m))


if __name__ == "__main__":
    unittest.main()
