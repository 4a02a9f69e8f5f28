"""Small maps tried with few colours, the trees of what was tried in vain, least colourings: points 45, 46, 47."""

import itertools
import unittest

from made import (
    all_maps, answer, chain_end, clashes, first_by_lists, flat_map, following_in, handed_round, handle_count,
    loops_at_one_place, map_by, neighbours_by_roads, prism, refusal, ring, shows_that_none_does, shuffled, small_maps,
    star, way, wrapped_grid,
)
from mapround.trees import least, tried
from mapround.turns import is_map

# Place 2 has roads to places 3, 1 and 0, in this order, and place 3 one to place 0.
HANGING = [[-9, -8], [-7], [-6, 7, 9], [6, 8]]
# A way through the places 0, 2, 3, 1.
CROSSWISE = [[-9], [-8], [-7, 9], [7, 8]]


def complete(n):
    """A map of n places, each with a road to each other one."""
    turns = [[] for _ in range(n)]
    for road, (one, two) in enumerate(itertools.combinations(range(n), 2), 1):
        turns[one].append(road)
        turns[two].append(-road)
    return map_by(following_in(turns), 1 if n == 1 else 0)


def few_places():
    """Maps of at most eight places, with handles and without."""
    yield from small_maps()
    yield from itertools.islice(all_maps(3), 0, None, 7)
    yield from (ring(5), ring(7), ring(8), way(7), star(7), prism(4), wrapped_grid(2, 3), wrapped_grid(2, 4))
    yield from (complete(n) for n in range(1, 8))
    for seed, places in itertools.product(range(12), (4, 5, 6, 7, 8)):
        yield shuffled(flat_map(seed, places, 5 + 2 * seed), seed)
    for seed in range(500, 560):
        m = chain_end(seed, 14)[1]
        if len(m) <= 8:
            yield m


class TriedTest(unittest.TestCase):

    def test_the_map_without_places(self):
        for many in range(9):
            self.assertEqual(tried([], many), ("colours", []))

    def test_no_colours(self):
        for m in ([[]], [[], []], [[-1, 1]], ring(8), handed_round(2)):
            self.assertEqual(tried(m, 0), ("none", []))

    def test_places_without_roads(self):
        for many in range(1, 9):
            self.assertEqual(tried([[]], many), ("colours", [0]))
            self.assertEqual(tried([[]] * 8, many), ("colours", [0] * 8))

    def test_a_road_from_a_place_to_itself_does_not_clash(self):
        for many in range(1, 9):
            self.assertEqual(tried([[-1, 1]], many), ("colours", [0]))
            self.assertEqual(tried([[-2, 1, 2, -1]], many), ("colours", [0]))
        self.assertEqual(tried(loops_at_one_place(64), 1), ("colours", [0]))

    def test_a_road_between_two_places(self):
        self.assertEqual(tried([[-1], [1]], 1), ("none", [(0, [(0, 0)])]))
        for many in range(2, 9):
            self.assertEqual(tried([[-1], [1]], many), ("colours", [0, 1]))

    def test_three_places_each_a_neighbour_of_each(self):
        m = [[-3, 1], [-2, 3], [-1, 2]]
        self.assertEqual(tried(m, 0), ("none", []))
        self.assertEqual(tried(m, 1), ("none", [(0, [(0, 0)])]))
        self.assertEqual(tried(m, 2), ("none", [(0, [(0, 0), (1, [(0, 0), (1, 1)])])]))
        for many in range(3, 9):
            self.assertEqual(tried(m, many), ("colours", [0, 1, 2]))

    def test_the_first_list_in_which_nothing_clashes(self):
        # With two colours 0 for place 1 leads to no list, with three it does.
        self.assertTrue(is_map(CROSSWISE))
        self.assertEqual(tried(CROSSWISE, 2), ("colours", [0, 1, 1, 0]))
        for many in range(3, 9):
            self.assertEqual(tried(CROSSWISE, many), ("colours", [0, 0, 1, 2]))

    def test_the_least_neighbour_before_it_is_told(self):
        # Where places 0 and 1 have both colour 0, it is place 0, though the turn of place 2 leads to place 1 first.
        self.assertTrue(is_map(HANGING))
        self.assertEqual(tried(HANGING, 2), ("none", [
            (0, [
                (0, [
                    (0, 0),
                    (1, [(0, 0), (1, 2)]),
                ]),
                (1, [(0, 0), (1, 1)]),
            ]),
        ]))
        self.assertEqual(tried(HANGING, 3), ("colours", [0, 0, 1, 2]))

    def test_a_new_colour_is_always_the_next_one(self):
        # Places 0 and 1 are no neighbours; place 1 may get 0 and 1, but not 2 at once.
        told = tried([[], [-9, -8, -7], [-6, -5, 9], [-4, 5, 8], [4, 6, 7]], 3)
        self.assertEqual(told[0], "none")
        place0 = told[1]
        self.assertEqual([colour for colour, _ in place0], [0])
        place1 = place0[0][1]
        self.assertEqual([colour for colour, _ in place1], [0, 1])
        self.assertEqual(place1[0][1], [
            (0, 1), (1, [(0, 1), (1, 2), (2, [(0, 1), (1, 2), (2, 3)])]),
        ])
        self.assertEqual(place1[1][1], [
            (0, [(0, 2), (1, 1), (2, [(0, 2), (1, 1), (2, 3)])]),
            (1, 1),
            (2, [(0, [(0, 3), (1, 1), (2, 2)]), (1, 1), (2, 2)]),
        ])

    def test_maps_with_handles(self):
        m = [[-3, -1, -2], [1, 2, 3]]
        self.assertEqual(handle_count(m), 1)
        self.assertEqual(tried(m, 1), ("none", [(0, [(0, 0)])]))
        self.assertEqual(tried(m, 2), ("colours", [0, 1]))

    def test_eight_places_each_a_neighbour_of_each(self):
        m = complete(8)
        self.assertTrue(is_map(m))
        tree = [(colour, colour) for colour in range(7)]
        for place in range(6, -1, -1):
            tree = [(colour, colour) for colour in range(place)] + [(place, tree)]
        self.assertEqual(tried(m, 7), ("none", tree))
        self.assertEqual(tried(m, 8), ("colours", [0, 1, 2, 3, 4, 5, 6, 7]))

    def test_nine_places(self):
        for m in ([[]] * 9, ring(9), [[]] * 8 + [[-1, 1]], [[]] * 8 + [[-2, 1, 2, -1]], [[]] * 140, way(64)):
            for many in range(9):
                self.assertEqual(answer(tried, m, many), refusal("TooBig"))

    def test_eight_places_are_not_refused(self):
        for m in ([[]] * 8, ring(8), [[]] * 7 + [[-1, 1]], [[]] * 7 + [[-2, 1, 2, -1]], prism(4)):
            for many in range(9):
                self.assertIn(tried(m, many)[0], ("colours", "none"))

    def test_many_maps(self):
        seen = []
        for m in few_places():
            near = neighbours_by_roads(m)
            for many in range(9):
                told = tried(m, many)
                colours = first_by_lists(near, many)
                seen.append((told[0], many))
                if colours is not None:
                    self.assertEqual(told, ("colours", colours))
                else:
                    self.assertEqual((told[0], len(told)), ("none", 2))
                    self.assertTrue(shows_that_none_does(near, many, told[1]), (m, many))
        self.assertGreaterEqual({many for word, many in seen if word == "none"}, {0, 1, 2, 3, 4, 5, 6})

    def test_kinds(self):
        for told in (tried(ring(3), 2), tried(ring(3), 3)):
            self.assertEqual([type(part) for part in told], [str, list])
        self.assertEqual({type(pair) for pair in tried(ring(3), 2)[1]}, {tuple})


class LeastTest(unittest.TestCase):

    def test_the_map_without_places(self):
        self.assertEqual(least([]), (0, [], []))

    def test_one_colour(self):
        self.assertEqual(least([[]]), (1, [0], []))
        self.assertEqual(least([[-2, 1, 2, -1]]), (1, [0], []))
        self.assertEqual(least([[]] * 7 + [[-1, 1]]), (1, [0] * 8, []))

    def test_two_colours(self):
        self.assertEqual(least([[-1], [1]]), (2, [0, 1], [(0, [(0, 0)])]))
        self.assertEqual(least(CROSSWISE), (2, [0, 1, 1, 0], [(0, [(0, [(0, 0)])])]))

    def test_three_colours(self):
        self.assertEqual(least([[-3, 1], [-2, 3], [-1, 2]]), (
            3, [0, 1, 2], [(0, [(0, 0), (1, [(0, 0), (1, 1)])])],
        ))
        self.assertEqual(least(HANGING), (3, [0, 0, 1, 2], tried(HANGING, 2)[1]))

    def test_rings(self):
        for places in range(2, 9):
            self.assertEqual(least(ring(places))[0], 2 + places % 2)

    def test_each_place_a_neighbour_of_each(self):
        for places in range(1, 9):
            m = complete(places)
            self.assertEqual(least(m), (places, list(range(places)), tried(m, places - 1)[1]))

    def test_nine_places(self):
        for m in ([[]] * 9, ring(9), [[]] * 8 + [[-1, 1]], [[]] * 140, way(64)):
            self.assertEqual(answer(least, m), refusal("TooBig"))

    def test_eight_places_are_not_refused(self):
        self.assertEqual(least([[]] * 8), (1, [0] * 8, []))
        self.assertEqual(least(prism(4))[0], 2)

    def test_many_maps(self):
        for m in few_places():
            near = neighbours_by_roads(m)
            many, colours, tree = least(m)
            self.assertEqual(many, len(set(colours)))
            self.assertEqual(colours, first_by_lists(near, many))
            self.assertEqual(clashes(near, colours), [])
            if m:
                self.assertIsNone(first_by_lists(near, many - 1))
                self.assertTrue(shows_that_none_does(near, many - 1, tree))
            else:
                self.assertEqual((many, colours, tree), (0, [], []))

    def test_kinds(self):
        for m in ([], [[]], ring(3)):
            self.assertEqual([type(part) for part in least(m)], [int, list, list])


if __name__ == "__main__":
    unittest.main()
