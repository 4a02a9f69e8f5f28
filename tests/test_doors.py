"""Bridges, groups, doors and maps that fall apart: points 30, 31 and 32."""

import itertools
import unittest

from made import (
    all_maps, apart, bare_in, bridges_by_pieces, chain, ends_in, following_in, groups_by_roads, handed_round,
    handle_count, lone_roads, looped_roads, loops_at_one_place, map_by, other_by_steps, piece_count, prism, ring,
    small_maps, star, together, way, wrapped_grid,
)
from mapround.changes import done_all
from mapround.doors import bridges, doors, fallen, groups
from mapround.lands import handles
from mapround.pieces import pieces
from mapround.turns import is_map

# Two triangles with place 0 in common, side by side and through each other.
TRIANGLES = [[-6, 1, -3, 4], [-5, 6], [-4, 5], [-2, 3], [-1, 2]]
THROUGH = [[-6, 1, 4, -3], [-5, 6], [-4, 5], [-2, 3], [-1, 2]]

# Place 1 has a road to itself, two roads to one place, and one to a place of its own.
MIXED = [[-4], [-3, 1, 3, 4, 2], [-2, -1]]


def some_maps():
    """Maps of all kinds, those made by changes among them."""
    yield from small_maps()
    yield from itertools.islice(all_maps(3), 0, None, 7)
    yield from (prism(4), ring(6), way(6), star(5), wrapped_grid(2, 3), handed_round(3), loops_at_one_place(4))
    yield from (TRIANGLES, THROUGH, MIXED, together(TRIANGLES, apart(MIXED, 10), [[], []]))
    for seed in range(230, 246):
        yield done_all(*chain(seed, 45))


def land_with(m, end):
    return [land for land in other_by_steps(m) if end in land][0]


def fallen_by_groups(m, place):
    parts = [[end for end in m[place] if abs(end) in group] for group in groups_by_roads(m, place)]
    turns = m[:place] + (parts or [[]]) + m[place + 1:]
    return map_by(following_in(turns), bare_in(turns))


class BridgesTest(unittest.TestCase):

    def test_maps_without_roads(self):
        self.assertEqual(bridges([]), [])
        self.assertEqual(bridges([[], []]), [])

    def test_one_road(self):
        self.assertEqual(bridges([[-1], [1]]), [1])
        self.assertEqual(bridges([[-1, 1]]), [])

    def test_two_roads_between_the_same_places(self):
        self.assertEqual(bridges([[-2, -1], [1, 2]]), [])

    def test_bridges_and_others(self):
        self.assertEqual(bridges([[-3], [-2, 1], [-1, 2, 3]]), [3])
        self.assertEqual(bridges(MIXED), [4])
        self.assertEqual(bridges(ring(5)), [])
        self.assertEqual(bridges(way(5)), [1, 2, 3, 4, 5])
        self.assertEqual(bridges(prism(4)), [])

    def test_a_road_between_two_rings(self):
        m = [[-7, -6, 1], [-5, 6], [-4, 5], [-3, 4, 7], [-2, 3], [-1, 2]]
        self.assertEqual(bridges(m), [])
        m = [[-6, 4], [-5, 6], [-4, 5, -7], [-3, 1, 7], [-2, 3], [-1, 2]]
        self.assertEqual(bridges(m), [7])

    def test_several_pieces(self):
        self.assertEqual(bridges([[], [-3, 3], [-2], [-1], [1], [2]]), [1, 2])
        self.assertEqual(bridges(together(ring(3), apart(way(2), 5))), [6, 7])

    def test_sorted_whatever_the_names(self):
        big = 10 ** 60 - 1
        self.assertEqual(bridges(sorted([[-big], [big], [-7], [7], [-11, 11]])), [7, big])

    def test_with_handles_one_land_at_both_sides_makes_no_bridge(self):
        for m in ([[-2, 1, 2, -1]], [[-3, -1, -2], [1, 2, 3]]):
            self.assertEqual(len(other_by_steps(m)), 1)
            self.assertEqual(bridges(m), [])

    def test_with_handles_there_are_bridges_too(self):
        self.assertEqual(bridges([[-3], [-2, 1, 2, -1, 3]]), [3])
        self.assertEqual(bridges([[-5, 1, 2, -1, -2], [-4, 5, 3, 4, -3]]), [5])

    def test_at_the_bounds(self):
        every = list(range(1, 65))
        self.assertEqual(bridges([[]] * 128 + lone_roads(1, 64)), every)
        self.assertEqual(bridges([[]] * 128 + star(64)), every)
        self.assertEqual(bridges([[]] * 128 + way(64)), every)
        self.assertEqual(bridges([[]] * 128 + ring(64)), [])
        self.assertEqual(bridges([[]] * 128 + looped_roads(1, 64)), [])

    def test_many_maps(self):
        for m in some_maps():
            with self.subTest(m=m):
                found = bridges(m)
                self.assertEqual(found, bridges_by_pieces(m))
                one_land = [end for end in sorted(ends_in(m)) if end > 0 and -end in land_with(m, end)]
                self.assertTrue(set(found) <= set(one_land))
                if handle_count(m) == 0:
                    self.assertEqual(found, one_land)


class GroupsTest(unittest.TestCase):

    def test_a_place_without_roads(self):
        self.assertEqual(groups([[]], 0), [])
        self.assertEqual(groups([[], [], [-1, 1]], 1), [])

    def test_one_road(self):
        self.assertEqual(groups([[-1], [1]], 0), [[1]])
        self.assertEqual(groups([[-1], [1]], 1), [[1]])

    def test_a_road_from_the_place_to_itself(self):
        self.assertEqual(groups([[-1, 1]], 0), [[1]])
        self.assertEqual(groups([[], [-1, 1]], 1), [[1]])

    def test_roads_from_the_place_to_itself_are_groups_by_themselves(self):
        self.assertEqual(groups([[-2, 2, -1, 1]], 0), [[1], [2]])
        self.assertEqual(groups([[-2, 1, 2, -1]], 0), [[1], [2]])
        self.assertEqual(groups([[-3, 2, 1, 3, -1, -2]], 0), [[1], [2], [3]])

    def test_roads_to_one_place_hang_together(self):
        self.assertEqual(groups([[-2, -1], [1, 2]], 0), [[1, 2]])
        self.assertEqual(groups([[-3, -1, -2], [1, 2, 3]], 1), [[1, 2, 3]])

    def test_a_way(self):
        m = [[-2], [-1, 2], [1]]
        self.assertEqual([groups(m, place) for place in range(3)], [[[2]], [[1], [2]], [[1]]])

    def test_a_ring(self):
        self.assertEqual([groups(ring(4), place) for place in range(4)], [[[1, 4]], [[3, 4]], [[2, 3]], [[1, 2]]])

    def test_several_groups(self):
        self.assertEqual([groups(TRIANGLES, place) for place in range(5)],
                         [[[1, 3], [4, 6]], [[5, 6]], [[4, 5]], [[2, 3]], [[1, 2]]])
        self.assertEqual(groups(THROUGH, 0), [[1, 3], [4, 6]])
        self.assertEqual([groups(MIXED, place) for place in range(3)], [[[4]], [[1, 2], [3], [4]], [[1, 2]]])

    def test_roads_of_other_pieces_are_not_told(self):
        m = together([[], []], MIXED, apart(TRIANGLES, 10))
        place = m.index(MIXED[1])
        self.assertEqual(groups(m, place), [[1, 2], [3], [4]])

    def test_roads_that_hang_together_a_long_way_round(self):
        m = ring(64)
        self.assertTrue(all(len(groups(m, place)) == 1 for place in range(64)))
        m = way(64)
        self.assertEqual([len(groups(m, place)) for place in range(65)], [1] + [2] * 63 + [1])

    def test_groups_are_sorted_as_lists(self):
        self.assertEqual(groups([[-12, -3, -10, -2], [2, 10], [3, 12]], 0), [[2, 10], [3, 12]])
        self.assertEqual(groups(star(12), 11), [[1]])
        self.assertEqual(groups(star(12), 12), [[road] for road in range(1, 13)])

    def test_many_maps(self):
        for m in some_maps():
            for place in range(len(m)):
                self.assertEqual(groups(m, place), groups_by_roads(m, place))


class DoorsTest(unittest.TestCase):

    def test_map_without_places(self):
        self.assertEqual(doors([]), [])

    def test_no_doors(self):
        for m in ([[]], [[], []], [[-1], [1]], [[-1, 1]], [[-2, -1], [1, 2]], ring(5), prism(3), wrapped_grid(2, 3)):
            self.assertEqual(doors(m), [])

    def test_doors(self):
        self.assertEqual(doors([[-2], [-1, 2], [1]]), [1])
        self.assertEqual(doors(TRIANGLES), [0])
        self.assertEqual(doors(THROUGH), [0])
        self.assertEqual(doors(MIXED), [1])
        self.assertEqual(doors([[-2, 2, -1, 1]]), [0])
        self.assertEqual(doors([[-2, 1, 2, -1]]), [0])
        self.assertEqual(doors([[-2, 2, -1], [1]]), [0])
        self.assertEqual(doors(way(5)), [1, 2, 3, 4])

    def test_several_pieces(self):
        self.assertEqual(doors([[], [], [-4], [-3, 4], [-2, 2, -1, 1], [3]]), [3, 4])

    def test_with_handles_a_land_may_come_twice_to_a_place_that_is_no_door(self):
        m = [[-3, -1, -2], [1, 2, 3]]
        self.assertEqual(len(other_by_steps(m)), 1)
        self.assertEqual(doors(m), [])

    def test_at_the_bounds(self):
        self.assertEqual(doors([[]] * 128 + lone_roads(1, 64)), [])
        self.assertEqual(doors([[]] * 128 + star(64)), [192])
        self.assertEqual(doors(way(64)), list(range(1, 64)))
        self.assertEqual(doors(loops_at_one_place(64)), [0])

    def test_many_maps(self):
        for m in some_maps():
            with self.subTest(m=m):
                found = doors(m)
                self.assertEqual(found, [k for k in range(len(m)) if len(groups_by_roads(m, k)) > 1])
                known = {end: k for k, land in enumerate(other_by_steps(m)) for end in land}
                again = [k for k, turn in enumerate(m) if len({known[end] for end in turn}) < len(turn)]
                self.assertTrue(set(found) <= set(again))
                if handle_count(m) == 0:
                    self.assertEqual(found, again)


class FallenTest(unittest.TestCase):

    def test_a_place_of_no_groups_stays(self):
        self.assertEqual(fallen([[]], 0), [[]])
        self.assertEqual(fallen([[], [], [-1, 1]], 1), [[], [], [-1, 1]])

    def test_a_place_of_one_group_stays(self):
        for m in ([[-1], [1]], [[-1, 1]], [[-2, -1], [1, 2]], ring(4), prism(3)):
            for place in range(len(m)):
                self.assertEqual(fallen(m, place), m)

    def test_a_place_of_several_groups(self):
        self.assertEqual(fallen([[-2], [-1, 2], [1]], 1), [[-2], [-1], [1], [2]])
        self.assertEqual(fallen([[-2, 2, -1, 1]], 0), [[-2, 2], [-1, 1]])
        self.assertEqual(fallen(TRIANGLES, 0), [[-6, 4], [-5, 6], [-4, 5], [-3, 1], [-2, 3], [-1, 2]])
        self.assertEqual(fallen(MIXED, 1), [[-4], [-3, 3], [-2, -1], [1, 2], [4]])

    def test_the_order_of_the_turn_is_kept(self):
        for turn, behind in (
            ([-6, 1, 2, 4, 3], [1, 2, 3]), ([-6, 2, 4, 1, 3], [1, 3, 2]), ([-6, 3, 2, 1, 4], [1, 3, 2]),
            ([-6, 3, 1, 4, 2], [1, 2, 3]),
        ):
            m = [turn, [-5, 6], [-4, 5], [-3, -1, -2]]
            self.assertTrue(is_map(m))
            self.assertEqual(fallen(m, 0), [[-6, 4], [-5, 6], [-4, 5], [-3, -1, -2], behind])

    def test_handles_may_go(self):
        self.assertEqual(fallen([[-2, 1, 2, -1]], 0), [[-2, 2], [-1, 1]])
        self.assertEqual((handles(THROUGH), handles(fallen(THROUGH, 0))), (1, 0))
        self.assertEqual(fallen(THROUGH, 0), fallen(TRIANGLES, 0))

    def test_at_the_bounds(self):
        self.assertEqual(fallen([[]] * 128 + star(64), 192), [[]] * 128 + lone_roads(1, 64))
        self.assertEqual(fallen(loops_at_one_place(64), 0), looped_roads(1, 64))
        self.assertEqual(fallen([[]] * 128 + ring(64), 5), [[]] * 128 + ring(64))

    def test_many_maps(self):
        for m in some_maps():
            for place in range(len(m)):
                told = fallen(m, place)
                self.assertEqual(told, fallen_by_groups(m, place))
                self.assertTrue(is_map(told))
                more = max(len(groups(m, place)) - 1, 0)
                self.assertEqual(len(pieces(told)), piece_count(m) + more)
                self.assertEqual(handles(told), handle_count(told))
                if handle_count(m) == 0:
                    self.assertEqual(handles(told), 0)


if __name__ == "__main__":
    unittest.main()
