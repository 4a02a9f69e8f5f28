"""Maps laid upon each other or told apart, and own turns: points 27, 28 and 29."""

import itertools
import unittest

from made import (
    alike_by_trial, all_maps, answer, apart, chain, compared_by_list, ends_in, handed_round, is_laying, is_refusal,
    layings_by_steps, lone_roads, looped_roads, loops_at_one_place, mirror_by_steps, pieces_by_names, prism, refusal,
    renamed, ring, shuffled, small_maps, star, together, way, wrapped_grid,
)
from mapround.changes import done_all
from mapround.codes import codes
from mapround.lands import mirror
from mapround.likeness import compared, own_turns

BARE_CODE = ((),)
LOOP_CODE = ((1, 0),)
ROAD_CODE = ((1,), (0,))

# A place with a short way, a longer one and a road to itself round it: the mirrored map is another one.
HANDED = [[-4], [-3, 1, 2, 3], [-2, 4], [-1]]

TETRAHEDRON = [[-6, 4, -1], [-5, 6, -3], [-4, 5, -2], [1, 2, 3]]


class AlikeTest(unittest.TestCase):

    def test_map_without_places(self):
        self.assertEqual(compared([], []), ("alike", []))

    def test_places_without_roads(self):
        self.assertEqual(compared([[]], [[]]), ("alike", []))
        self.assertEqual(compared([[]] * 128, [[]] * 128), ("alike", []))

    def test_one_road(self):
        self.assertEqual(compared([[-1, 1]], [[-7, 7]]), ("alike", [(-1, -7), (1, 7)]))
        self.assertEqual(compared([[-7], [7]], [[-1], [1]]), ("alike", [(-7, -1), (7, 1)]))

    def test_the_least_ends_of_the_least_code_are_laid_upon_each_other(self):
        # Both ways have their least code from either end of them.
        self.assertEqual(compared([[-2], [-1, 2], [1]], [[-5, 3], [-3], [5]]),
                         ("alike", [(-2, -3), (-1, -5), (1, 5), (2, 3)]))
        self.assertEqual(compared([[-5, 3], [-3], [5]], [[-2], [-1, 2], [1]]),
                         ("alike", [(-5, -1), (-3, -2), (3, 2), (5, 1)]))
        # Here one end alone has it: the one at the place without other ends.
        self.assertEqual(compared([[-2, 2, -1], [1]], [[-4], [-3, 3, 4]]),
                         ("alike", [(-2, -3), (-1, 4), (1, -4), (2, 3)]))

    def test_pieces_of_like_codes_in_the_order_in_which_they_are_told(self):
        m = [[-3], [-2, 2], [-1], [1], [3]]
        n = [[-9], [-8], [-5, 5], [8], [9]]
        self.assertEqual(compared(m, n), ("alike", [(-3, -9), (-2, -5), (-1, -8), (1, 8), (2, 5), (3, 9)]))
        loops = [[-9, 9], [-4, 4], [-2, 2]]
        self.assertEqual(compared(looped_roads(1, 3), loops),
                         ("alike", [(-3, -9), (-2, -4), (-1, -2), (1, 2), (2, 4), (3, 9)]))

    def test_pieces_in_the_order_of_their_codes(self):
        m = [[], [-6, 5], [-5, 6], [-4, 4], [-3], [3]]
        n = [[], [-6], [-3, 3], [-2, 1], [-1, 2], [6]]
        self.assertEqual(compared(m, n), ("alike", [
            (-6, -2), (-5, -1), (-4, -3), (-3, -6), (3, 6), (4, 3), (5, 1), (6, 2),
        ]))

    def test_the_laying_is_sorted(self):
        laying = compared(prism(3), shuffled(prism(3), 5))[1]
        self.assertEqual(laying, sorted(laying))
        self.assertTrue(all(isinstance(pair, tuple) for pair in laying))

    def test_a_map_and_the_mirrored_one(self):
        for m in (prism(4), TETRAHEDRON, ring(5), [[-2, 1, 2, -1]], [[-1, 1]]):
            with self.subTest(m=m):
                told = compared(m, mirror_by_steps(m))
                self.assertEqual(told[0], "alike")
                self.assertTrue(is_laying(m, mirror_by_steps(m), told[1]))

    def test_a_map_and_the_mirrored_one_that_are_not_alike(self):
        over = mirror_by_steps(HANDED)
        code, other = codes(HANDED)[0], codes(over)[0]
        self.assertNotEqual(code, other)
        self.assertEqual(compared(HANDED, over), ("unlike", min(code, other), int(code < other), int(other < code)))
        self.assertEqual(compared(over, HANDED), ("unlike", min(code, other), int(other < code), int(code < other)))
        both = together(HANDED, apart(over, 10))
        self.assertEqual(compared(both, mirror(both))[0], "alike")

    def test_other_names_are_alike(self):
        for number, m in enumerate((prism(5), wrapped_grid(2, 3), handed_round(3), HANDED, star(6),
                                    [[], []] + together(ring(4), apart(ring(4), 9), apart(way(3), 20)))):
            n = shuffled(m, number)
            told = compared(m, n)
            self.assertEqual(told[0], "alike")
            self.assertTrue(is_laying(m, n, told[1]))
            self.assertEqual(told, compared_by_list(m, n))

    def test_big_names(self):
        big = 10 ** 60 - 1
        self.assertEqual(compared([[-1, 1]], [[-big, big]]), ("alike", [(-1, -big), (1, big)]))
        self.assertEqual(compared(ring(2), renamed(ring(2), {1: -big, 2: 5}))[0], "alike")

    def test_at_the_bounds(self):
        m = [[]] * 128 + lone_roads(1, 64)
        self.assertEqual(compared(m, m), ("alike", [(end, end) for end in range(-64, 65) if end]))
        grid = wrapped_grid(4, 8)
        self.assertEqual(compared(grid, shuffled(grid, 3))[0], "alike")
        self.assertTrue(is_laying(grid, shuffled(grid, 3), compared(grid, shuffled(grid, 3))[1]))


class UnlikeTest(unittest.TestCase):

    def both_ways(self, m, n, code, ones, others):
        self.assertEqual(compared(m, n), ("unlike", code, ones, others))
        self.assertEqual(compared(n, m), ("unlike", code, others, ones))

    def test_map_without_places(self):
        self.both_ways([], [[]], BARE_CODE, 0, 1)
        self.both_ways([], [[-1, 1]], LOOP_CODE, 0, 1)
        self.both_ways([], [[], [], [-1, 1]], BARE_CODE, 0, 2)

    def test_places_without_roads(self):
        self.both_ways([[]], [[], []], BARE_CODE, 1, 2)
        self.both_ways([[], [-1, 1]], [[-1, 1]], BARE_CODE, 1, 0)
        self.both_ways([[]] * 128, [[]] * 127, BARE_CODE, 128, 127)

    def test_unlike_pieces(self):
        self.both_ways([[-1, 1]], [[-1], [1]], ROAD_CODE, 0, 1)
        self.both_ways([[-2, 2, -1, 1]], [[-2, 1, 2, -1]], ((1, 0, 3, 2),), 1, 0)

    def test_the_least_code_of_which_the_numbers_differ(self):
        # Both have two places without roads, so that code tells nothing.
        self.both_ways([[], [], [-2, 2], [-1, 1]], [[], [], [-2], [-1, 1], [2]], ROAD_CODE, 0, 1)
        self.both_ways([[], [], [-2, 2], [-1, 1]], [[], [], [-2, 2]], LOOP_CODE, 2, 1)
        self.both_ways([[], [-2, 2], [-1, 1]], [[], [], [-2, 2]], BARE_CODE, 1, 2)

    def test_a_code_that_both_have(self):
        m = lone_roads(1, 5)
        n = together(lone_roads(1, 3), looped_roads(4, 5))
        self.both_ways(m, n, ROAD_CODE, 5, 3)
        self.both_ways(looped_roads(1, 64), looped_roads(1, 63), LOOP_CODE, 64, 63)


class ManyMapsTest(unittest.TestCase):

    def test_every_two_maps_of_at_most_two_roads(self):
        maps = [m for roads, bare in itertools.product(range(3), range(2)) for m in all_maps(roads, bare)]
        for m, n in itertools.product(maps, maps):
            told = compared(m, n)
            self.assertEqual(told[0] == "alike", alike_by_trial(m, n))
            self.assertEqual(told[0] == "alike", codes(m) == codes(n))
            self.assertEqual(told, compared_by_list(m, n))

    def test_maps_of_three_roads(self):
        maps = list(all_maps(3))[::31]
        for m, n in itertools.product(maps, maps):
            told = compared(m, n)
            self.assertEqual(told[0] == "alike", alike_by_trial(m, n))
            self.assertEqual(told, compared_by_list(m, n))

    def test_small_maps_upon_their_shuffled_and_mirrored_ones(self):
        for number, m in enumerate(small_maps()):
            for n in (shuffled(m, number), mirror_by_steps(m), shuffled(mirror_by_steps(m), number)):
                self.assertEqual(compared(m, n), compared_by_list(m, n))


class OwnTurnsTest(unittest.TestCase):

    def test_one_place_without_roads(self):
        self.assertEqual(own_turns([[]]), [[]])

    def test_one_road(self):
        self.assertEqual(own_turns([[-1, 1]]), [[(-1, -1), (1, 1)], [(-1, 1), (1, -1)]])
        self.assertEqual(own_turns([[-1], [1]]), [[(-1, -1), (1, 1)], [(-1, 1), (1, -1)]])

    def test_one_own_turn(self):
        self.assertEqual(own_turns([[-2, 2, -1], [1]]), [[(-2, -2), (-1, -1), (1, 1), (2, 2)]])
        self.assertEqual(own_turns(HANDED), [[(end, end) for end in range(-4, 5) if end]])

    def test_two_roads_from_a_place_to_itself(self):
        self.assertEqual(own_turns([[-2, 1, 2, -1]]), [
            [(-2, -2), (-1, -1), (1, 1), (2, 2)],
            [(-2, -1), (-1, 2), (1, -2), (2, 1)],
            [(-2, 1), (-1, -2), (1, 2), (2, -1)],
            [(-2, 2), (-1, 1), (1, -1), (2, -2)],
        ])
        self.assertEqual(own_turns([[-2, 2, -1, 1]]), [
            [(-2, -2), (-1, -1), (1, 1), (2, 2)],
            [(-2, -1), (-1, -2), (1, 2), (2, 1)],
        ])

    def test_how_many(self):
        for m, many in ((TETRAHEDRON, 12), (prism(4), 24), (prism(3), 6), (prism(5), 10), (ring(1), 2), (ring(7), 14),
                        (way(5), 2), (star(6), 6), (loops_at_one_place(5), 5), (wrapped_grid(2, 2), 16),
                        (wrapped_grid(3, 2), 12), (wrapped_grid(3, 3), 36), (handed_round(2), 2)):
            with self.subTest(m=m):
                self.assertEqual(len(own_turns(m)), many)
                self.assertEqual(own_turns(m), layings_by_steps(m, m))

    def test_at_the_bounds(self):
        self.assertEqual(len(own_turns(ring(64))), 128)
        self.assertEqual(len(own_turns(star(64))), 64)
        self.assertEqual(len(own_turns(wrapped_grid(4, 8))), 64)
        self.assertEqual(len(own_turns(prism(21))), 42)

    def test_not_one_piece(self):
        for m in ([], [[], []], [[], [-1, 1]], [[-2, 2], [-1, 1]], [[-2], [-1], [1], [2]], [[]] * 128):
            with self.subTest(m=m):
                self.assertEqual(answer(own_turns, m), refusal("NotOnePiece"))

    def own_turns_hold(self, m):
        """What the point says of all own turns of a map of one piece with roads."""
        found = own_turns(m)
        ends = sorted(ends_in(m))
        still = [(end, end) for end in ends]
        self.assertEqual(found, sorted(found))
        self.assertEqual(len(ends) % len(found), 0)
        self.assertIn(still, found)
        for laying in found:
            self.assertTrue(is_laying(m, m, laying))
            if any(end == upon for end, upon in laying):
                self.assertEqual(laying, still)
        for one, two in itertools.product(found[:6], found):
            behind = dict(two)
            self.assertIn([(end, behind[upon]) for end, upon in one], found)

    def test_what_holds_for_all_own_turns(self):
        for m in (prism(4), prism(3), TETRAHEDRON, wrapped_grid(2, 3), ring(6), HANDED, star(4), handed_round(3)):
            with self.subTest(m=m):
                self.own_turns_hold(m)

    def test_every_map_of_at_most_three_roads(self):
        for roads in (1, 2, 3):
            for m in all_maps(roads):
                if len(pieces_by_names(m)) == 1:
                    self.assertEqual(own_turns(m), layings_by_steps(m, m))
                    self.own_turns_hold(m)
                else:
                    self.assertEqual(answer(own_turns, m), refusal("NotOnePiece"))

    def test_pieces_of_maps_made_by_changes(self):
        for seed in range(220, 228):
            m = done_all(*chain(seed, 50))
            self.assertEqual(is_refusal(answer(own_turns, m)), len(pieces_by_names(m)) != 1)
            for piece in pieces_by_names(m):
                self.assertEqual(own_turns(piece), layings_by_steps(piece, piece))


if __name__ == "__main__":
    unittest.main()
