"""Walks, crossings, and handles told by crossings: points 33, 34 and 35."""

import itertools
import unittest

from made import (
    all_maps, answer, apart, chain, crossing_by_spots, ends_in, handed_round, handle_count, is_refusal, lone_roads,
    loops_at_one_place, pieces_by_names, prism, rank_of_crossings, refusal, ring, shuffled, small_maps,
    star, together, walk_by_steps, way, wrapped_grid,
)
from mapround.changes import done_all
from mapround.lands import handles
from mapround.pieces import pieces
from mapround.turns import is_map
from mapround.walks import crossing, walk


def some_pieces():
    """Maps of one piece of all kinds, those made by changes among them."""
    for m in itertools.chain(small_maps(), all_maps(3)):
        if len(pieces_by_names(m)) == 1:
            yield m
    yield from (prism(4), ring(6), way(6), star(5), loops_at_one_place(4))
    yield from (wrapped_grid(2, 3), handed_round(2), handed_round(3))
    for seed in range(250, 270):
        yield from pieces_by_names(done_all(*chain(seed, 50)))


class WalkTest(unittest.TestCase):

    def test_one_place_without_roads(self):
        self.assertEqual(walk([[]]), [])

    def test_a_road_from_a_place_to_itself(self):
        self.assertEqual(walk([[-1, 1]]), [("side", -1), ("side", 1)])

    def test_a_road_between_two_places(self):
        self.assertEqual(walk([[-1], [1]]), [("down", -1), ("up", 1)])

    def test_two_roads_between_two_places(self):
        self.assertEqual(walk([[-2, -1], [1, 2]]), [("down", -2), ("side", 1), ("up", 2), ("side", -1)])

    def test_a_ring(self):
        self.assertEqual(walk([[-3, 1], [-2, 3], [-1, 2]]), [
            ("down", -3), ("down", -2), ("side", -1), ("up", 2), ("up", 3), ("side", 1),
        ])

    def test_down_up_and_side(self):
        m = [[-5, 1, 2], [-4, 4, -1, 3], [-3], [-2, 5]]
        self.assertTrue(is_map(m))
        self.assertEqual(walk(m), [
            ("down", -5), ("side", -2), ("up", 5),
            ("down", 1), ("down", 3), ("up", -3), ("side", -4), ("side", 4), ("up", -1),
            ("side", 2),
        ])

    def test_a_place_is_gone_round_from_the_end_by_which_one_came(self):
        m = [[-4], [-3], [-2], [-1, 2, 4, 3], [1]]
        self.assertEqual(walk(m), [
            ("down", -4), ("down", 3), ("up", -3), ("down", -1), ("up", 1), ("down", 2), ("up", -2), ("up", 4),
        ])

    def test_a_place_that_was_come_to_is_not_gone_down_to_again(self):
        # Both other places lie beside place 0, and the second one is come to by way of the first.
        m = [[-3, 1], [-2, 3], [-1, 2]]
        downs = [end for word, end in walk(m) if word == "down"]
        self.assertEqual(downs, [-3, -2])

    def test_a_long_way(self):
        for roads in (64, 140):
            self.assertEqual(walk(way(roads)), [("down", -k) for k in range(roads, 0, -1)]
                             + [("up", k) for k in range(1, roads + 1)])

    def test_at_the_bounds(self):
        loops = loops_at_one_place(64)
        self.assertEqual(walk(loops), [("side", end) for end in loops[0]])
        for m in (star(64), ring(64), wrapped_grid(4, 8), prism(21)):
            self.assertEqual(walk(m), walk_by_steps(m))

    def test_not_one_piece(self):
        for m in ([], [[], []], [[], [-1, 1]], [[-2, 2], [-1, 1]], [[-2], [-1], [1], [2]], [[]] * 128):
            with self.subTest(m=m):
                self.assertEqual(answer(walk, m), refusal("NotOnePiece"))

    def test_many_maps(self):
        for m in some_pieces():
            things = walk(m)
            self.assertEqual(things, walk_by_steps(m))
            self.assertEqual(sorted(end for _, end in things), sorted(ends_in(m)))
            words = {end: word for word, end in things}
            for word, end in things:
                self.assertEqual(words[-end], {"down": "up", "up": "down", "side": "side"}[word])
            self.assertEqual(sum(word == "down" for word, _ in things), len(m) - 1)

    def test_several_pieces_of_maps_made_by_changes(self):
        for seed in range(250, 260):
            m = done_all(*chain(seed, 50))
            self.assertEqual(is_refusal(answer(walk, m)), len(pieces_by_names(m)) != 1)


class CrossingTest(unittest.TestCase):

    def test_no_roads(self):
        self.assertIsNone(crossing([]))
        self.assertIsNone(crossing([[]]))
        self.assertIsNone(crossing([[], [], []]))

    def test_none(self):
        for m in ([[-1, 1]], [[-1], [1]], [[-2, 2, -1, 1]], [[-2, 1, -1, 2]], [[-2, -1], [1, 2]], ring(5), prism(5),
                  way(64), star(64), loops_at_one_place(64), [[]] * 128 + lone_roads(1, 64),
                  together([[]], ring(3), apart(prism(4), 10))):
            with self.subTest(m=m):
                self.assertIsNone(crossing(m))

    def test_two_roads_at_one_place(self):
        self.assertEqual(crossing([[-2, 1, 2, -1]]), (2, 1))
        self.assertEqual(crossing([[-2, -1, 2, 1]]), (2, 1))
        self.assertEqual(crossing([[-9, 4, 9, -4]]), (9, 4))

    def test_of_those_opened_behind_the_one_opened_last(self):
        self.assertEqual(crossing([[-3, 1, 2, 3, -2, -1]]), (3, 2))
        self.assertEqual(crossing([[-3, 2, 1, 3, -2, -1]]), (3, 1))

    def test_of_those_opened_behind_only_ones_not_closed_yet(self):
        self.assertEqual(crossing([[-4, 1, 2, -2, 4, -1]]), (4, 1))
        self.assertEqual(crossing([[-4, 1, 3, 2, -2, 4, -1, -3]]), (4, 3))

    def test_where_first_a_road_is_closed_so(self):
        # Road 3 is opened behind 4, and closed ahead of it while 1 is not closed yet.
        self.assertEqual(crossing([[-4, 3, 1, -3, 4, -1]]), (3, 1))
        self.assertEqual(crossing([[-4, 4, -3, 1, 3, -1, 2, -2]]), (3, 1))

    def test_roads_between_places(self):
        self.assertEqual(walk([[-3, -2, -1], [1, 2, 3]]), [
            ("down", -3), ("side", 1), ("side", 2), ("up", 3), ("side", -2), ("side", -1),
        ])
        self.assertIsNone(crossing([[-3, -2, -1], [1, 2, 3]]))
        self.assertEqual(crossing([[-3, -1, -2], [1, 2, 3]]), (1, 2))

    def test_in_the_first_of_the_pieces_where_two_cross(self):
        self.assertEqual(crossing([[-4, 3, 4, -3], [-2, 1, 2, -1]]), (4, 3))
        self.assertEqual(crossing([[], [-9, 9], [-4, 3, 4, -3], [-2, 1, 2, -1]]), (4, 3))
        self.assertEqual(crossing([[], [-4, 4, -3, 3], [-2, 1, 2, -1]]), (2, 1))
        # The pieces come in the order of their first places, whatever lies between.
        self.assertEqual(crossing([[-9], [-4, 3, 4, -3], [-2, 1, 2, -1, 9]]), (2, 1))

    def test_only_the_walk_of_each_piece_counts(self):
        m = together(handed_round(1), apart(handed_round(2), 10))
        self.assertEqual(crossing(m), crossing(apart(handed_round(2), 10)))

    def test_many_maps(self):
        for m in itertools.chain(small_maps(), all_maps(3, 1)):
            found = [crossing_by_spots(walk_by_steps(piece)) for piece in pieces_by_names(m)]
            self.assertEqual(crossing(m), ([told for told in found if told] + [None])[0])
        for seed in range(270, 300):
            m = done_all(*chain(seed, 50))
            found = [crossing_by_spots(walk_by_steps(piece)) for piece in pieces_by_names(m)]
            self.assertEqual(crossing(m), ([told for told in found if told] + [None])[0])


class HandlesByCrossingsTest(unittest.TestCase):

    def test_none_just_where_the_crossing_is_none(self):
        for m in itertools.chain(small_maps(), all_maps(3, 1)):
            self.assertEqual(crossing(m) is None, handle_count(m) == 0)

    def test_the_rank_of_maps_of_known_handles(self):
        for m, many in (([[]], 0), ([[-1, 1]], 0), (prism(5), 0), ([[-2, 1, 2, -1]], 1), ([[-3, 1, 2, 3, -1, -2]], 1),
                        (wrapped_grid(2, 3), 1), (handed_round(2), 2), ([[-4, 3, 2, 1, 4, -3, -2, -1]], 2),
                        (handed_round(5), 5), (handed_round(32), 32), (wrapped_grid(4, 8), 1)):
            with self.subTest(m=m):
                self.assertEqual(rank_of_crossings(walk(m)), 2 * many)
                self.assertEqual(handles(m), many)
                self.assertEqual(crossing(m) is None, many == 0)

    def test_other_names_have_another_walk_but_the_same_rank(self):
        for m in (wrapped_grid(3, 3), handed_round(4), prism(6)):
            for seed in range(5):
                n = shuffled(m, seed)
                self.assertEqual(rank_of_crossings(walk(n)), 2 * handle_count(m))

    def test_the_rank_of_many_maps(self):
        seen = set()
        for m in some_pieces():
            self.assertEqual(rank_of_crossings(walk(m)), 2 * handles(m))
            seen.add(handles(m))
        self.assertTrue({0, 1, 2, 3} <= seen, seen)

    def test_the_pieces_of_a_map_have_its_handles_together(self):
        for seed in range(270, 290):
            m = done_all(*chain(seed, 50))
            ranks = [rank_of_crossings(walk(piece)) for piece in pieces(m)]
            self.assertEqual(sum(ranks), 2 * handles(m))


if __name__ == "__main__":
    unittest.main()
