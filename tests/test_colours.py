"""Neighbours, chains, colourings with their logs, and lands coloured: points 40 to 44."""

import itertools
import random
import unittest

from made import (
    all_maps, answer, apart, chain_by_growth, chain_end, clashes, coloured_by_words, colours_along, crossing_by_spots,
    flat_map, flat_maps, handed_round, handle_count, is_refusal, lone_roads, loops_at_one_place, neighbours_by_roads,
    other_by_steps, pieces_by_names, prism, refusal, ring, shuffled, small_maps, star, taken_out_by_words, together,
    walk_by_steps, way, wrapped_grid,
)
from mapround.colours import chain, coloured, lands_coloured, neighbours
from mapround.lands import lands
from mapround.turns import is_map

# Place 0 has roads to five others, which lie at places 1 to 5.
FIVE = [[-5, -4, -3, -2, -1], [1], [2], [3], [4], [5]]
# So it is here; and a road leads from the first one of its turn (place 1) to the third one (place 2).
FIVE_AND_ONE = [[-9, -8, -7, -6, -5], [-1, 9], [1, 7], [5], [6], [8]]
# Here place 6 lies behind the first one of the five (place 2), and has the colour of the third one (place 1).
LONGER_FIRST = [[-99, -50, 70, -40, -30], [-70], [-60, 99], [30], [40], [50], [60]]
# Here a road leads from the first one (place 3) to the third one (place 4), and place 6 lies behind the
# second one (place 2) and has the colour of the fourth one (place 1).
LONGER_SECOND = [[-50, -40, -30, 20, -10], [-20], [-15, 40], [-5, 50], [5, 30], [10], [15]]


def crossing_of(m):
    found = [crossing_by_spots(walk_by_steps(piece)) for piece in pieces_by_names(m)]
    one, two = [told for told in found if told][0]
    return refusal("Crossed", one=one, two=two)


class NeighboursTest(unittest.TestCase):

    def test_no_roads(self):
        self.assertEqual(neighbours([]), [])
        self.assertEqual(neighbours([[]]), [[]])
        self.assertEqual(neighbours([[], [], []]), [[], [], []])

    def test_roads_from_a_place_to_itself(self):
        self.assertEqual(neighbours([[-1, 1]]), [[]])
        self.assertEqual(neighbours([[-2, 2, -1], [1]]), [[1], [0]])

    def test_several_roads_to_one_neighbour(self):
        self.assertEqual(neighbours([[-3, -2, -1], [1, 2, 3]]), [[1], [0]])

    def test_in_the_order_in_which_the_turn_first_leads_to_them(self):
        self.assertEqual(neighbours(FIVE), [[5, 4, 3, 2, 1], [0], [0], [0], [0], [0]])
        self.assertEqual(neighbours(FIVE_AND_ONE), [[1, 5, 2, 4, 3], [2, 0], [1, 0], [0], [0], [0]])
        # The turn leads to places 2, 0 by itself, 1, 2 again, 3.
        m = [[-9, -8, 8, -7, -6, -5], [5], [6, 9], [7]]
        self.assertTrue(is_map(m))
        self.assertEqual(neighbours(m), [[2, 3, 1], [0], [0], [0]])

    def test_several_pieces_and_handles(self):
        self.assertEqual(neighbours([[], [-4, 3, 4, -3], [-2, 1], [-1, 2]]), [[], [], [3], [2]])
        self.assertEqual(neighbours([[-3, -1, -2], [1, 2, 3]]), [[1], [0]])

    def test_many_maps(self):
        for m in itertools.chain(small_maps(), all_maps(3), flat_maps(), (prism(21), star(64), [[]] * 140)):
            self.assertEqual(neighbours(m), neighbours_by_roads(m))
        for seed in range(430, 450):
            m = chain_end(seed, 50)[1]
            self.assertEqual(neighbours(m), neighbours_by_roads(m))


class ChainTest(unittest.TestCase):

    def test_a_place_alone(self):
        self.assertEqual(chain([[]], [0], 0, 0, 1), [0])
        self.assertEqual(chain([[-1, 1]], [3], 0, 1, 3), [0])
        self.assertEqual(chain([[-1], [1]], [0, 1], 0, 0, 2), [0])

    def test_along_a_way(self):
        m = [[-4], [-3, 4], [-2, 3], [-1, 2], [1]]
        self.assertEqual(chain(m, [0, 1, 0, 1, 0], 2, 0, 1), [0, 1, 2, 3, 4])
        self.assertEqual(chain(m, [0, 1, 0, 2, 0], 1, 0, 1), [0, 1, 2])
        self.assertEqual(chain(m, [0, 1, 0, 2, 0], 1, 1, 0), [0, 1, 2])
        self.assertEqual(chain(m, [0, 1, 0, 2, 0], 4, 0, 1), [4])
        self.assertEqual(chain(m, [0, 1, 0, 2, 0], 4, 2, 0), [2, 3, 4])

    def test_places_without_a_colour(self):
        m = [[-4], [-3, 4], [-2, 3], [-1, 2], [1]]
        self.assertEqual(chain(m, [0, 1, None, 1, 0], 0, 0, 1), [0, 1])
        self.assertEqual(chain(m, [0, 1, None, 1, 0], 4, 0, 1), [3, 4])
        self.assertEqual(chain(m, [None, 0, None, None, None], 1, 0, 1), [1])

    def test_places_of_one_colour_beside_each_other(self):
        # Nothing asks for unlike colours of neighbours.
        self.assertEqual(chain(ring(4), [2, 2, 2, 2], 1, 7, 2), [0, 1, 2, 3])

    def test_other_pieces_are_not_in_it(self):
        self.assertEqual(chain([[-2], [-1], [1], [2]], [0, 0, 1, 1], 1, 0, 1), [1, 2])

    def test_sorted(self):
        self.assertEqual(chain(FIVE, [0, 1, 1, 1, 1, 1], 3, 1, 0), [0, 1, 2, 3, 4, 5])

    def test_handles_do_not_matter(self):
        m = wrapped_grid(3, 3)
        self.assertEqual(chain(m, [1] * 9, 4, 0, 1), list(range(9)))

    def test_colours_above_four(self):
        self.assertEqual(chain([[-1], [1]], [90, 10 ** 30], 0, 10 ** 30, 90), [0, 1])

    def test_many_maps(self):
        dice = random.Random(1)
        maps = list(flat_maps())[::4] + [wrapped_grid(4, 8), prism(21), way(64)]
        for m in [one for one in maps if one]:
            for _ in range(4):
                colours = [dice.choice((None, 0, 1, 2)) for _ in m]
                a, b = dice.sample(range(3), 2)
                place = dice.randrange(len(m))
                colours[place] = dice.choice((a, b))
                self.assertEqual(chain(m, colours, place, a, b), chain_by_growth(m, colours, place, a, b))


class ColouredTest(unittest.TestCase):

    def test_the_map_without_places(self):
        self.assertEqual(coloured([]), ([], []))

    def test_one_place(self):
        self.assertEqual(coloured([[]]), ([0], [("lay", 0, 0)]))
        self.assertEqual(coloured([[-1, 1]]), ([0], [("lay", 0, 0)]))

    def test_places_without_roads_take_the_colours_one_after_another(self):
        # The last place is laid first; each gets the colour that the fewest have, of several the least.
        self.assertEqual(coloured([[]] * 7), ([1, 0, 4, 3, 2, 1, 0], [
            ("lay", 6, 0), ("lay", 5, 1), ("lay", 4, 2), ("lay", 3, 3), ("lay", 2, 4), ("lay", 1, 0), ("lay", 0, 1),
        ]))

    def test_a_road_between_two_places(self):
        self.assertEqual(coloured([[-1], [1]]), ([1, 0], [("lay", 1, 0), ("lay", 0, 1)]))

    def test_the_colour_that_the_fewest_laid_places_have(self):
        # When place 1 is laid 0 and 1 and 2 have been given; 3 and 4 have not, and 3 is the lesser one.
        self.assertEqual(coloured([[-4], [-3, 4], [-2, 3], [-1, 2], [1]]), ([4, 3, 2, 1, 0], [
            ("lay", 4, 0), ("lay", 3, 1), ("lay", 2, 2), ("lay", 1, 3), ("lay", 0, 4),
        ]))
        # When place 0 is laid one place has each colour; only 1 is barred, so it gets 0.
        m = [[-5], [-4, -3], [-2, -1], [1, 4], [2, 5], [3]]
        self.assertTrue(is_map(m))
        self.assertEqual(coloured(m), ([0, 4, 3, 2, 1, 0], [
            ("lay", 5, 0), ("lay", 4, 1), ("lay", 3, 2), ("lay", 2, 3), ("lay", 1, 4), ("lay", 0, 0),
        ]))
        # Place 5 is the neighbour of place 0 here, so that 0 is barred there.
        m = [[-5], [-4, -3], [-2, -1], [1, 4], [2, 3], [5]]
        self.assertTrue(is_map(m))
        self.assertEqual(coloured(m)[1][-1], ("lay", 0, 1))

    def test_only_laid_neighbours_bar_a_colour(self):
        self.assertEqual(coloured(ring(3)), ([2, 1, 0], [("lay", 2, 0), ("lay", 1, 1), ("lay", 0, 2)]))

    def test_the_first_place_of_at_most_five_neighbours_is_taken_out(self):
        # Place 0 has six neighbours; it is passed over until place 1 is out, and then has just five.
        six = [[-6, -5, -4, -3, -2, -1], [1], [2], [3], [4], [5], [6]]
        self.assertEqual(coloured(six), ([0, 1, 4, 3, 2, 1, 2], [
            ("lay", 6, 0), ("lay", 5, 1), ("lay", 4, 2), ("lay", 3, 3), ("lay", 2, 4),
            ("turn", 6, 0, 2), ("lay", 0, 0), ("lay", 1, 1),
        ]))
        # Eight are too many until places 1 to 3 are out.
        eight = [list(range(-8, 0))] + [[road] for road in range(1, 9)]
        order = [step[1] for step in coloured(eight)[1] if step[0] == "lay"]
        self.assertEqual(order, [8, 7, 6, 5, 4, 0, 3, 2, 1])

    def test_neighbours_are_counted_and_not_roads(self):
        # Place 0 has seven roads to one neighbour, and one road to itself.
        m = [[-8, 8, -7, -6, -5, -4, -3, -2, -1], [1, 2, 3, 4, 5, 6, 7]]
        self.assertEqual(coloured(m), ([1, 0], [("lay", 1, 0), ("lay", 0, 1)]))

    def test_five_laid_neighbours_of_five_colours_and_the_chain_of_the_first(self):
        # n1 to n5 are the places 5 to 1, of the colours 0 to 4; the chain of place 5 by 0 and 2 is itself alone.
        self.assertEqual(coloured(FIVE), ([0, 4, 3, 2, 1, 2], [
            ("lay", 5, 0), ("lay", 4, 1), ("lay", 3, 2), ("lay", 2, 3), ("lay", 1, 4),
            ("turn", 5, 0, 2), ("lay", 0, 0),
        ]))

    def test_five_laid_neighbours_of_five_colours_and_the_chain_of_the_second(self):
        # n1 to n5 are the places 1, 5, 2, 4, 3 of the colours 4, 0, 3, 1, 2; a road leads from n1 to n3.
        self.assertEqual(coloured(FIVE_AND_ONE), ([0, 4, 3, 2, 1, 1], [
            ("lay", 5, 0), ("lay", 4, 1), ("lay", 3, 2), ("lay", 2, 3), ("lay", 1, 4),
            ("turn", 5, 0, 1), ("lay", 0, 0),
        ]))

    def test_chains_of_several_places(self):
        self.assertEqual(coloured(LONGER_FIRST), ([4, 0, 0, 3, 2, 1, 4], [
            ("lay", 6, 0), ("lay", 5, 1), ("lay", 4, 2), ("lay", 3, 3), ("lay", 2, 4), ("lay", 1, 0),
            ("turn", 2, 4, 0), ("lay", 0, 4),
        ]))
        self.assertEqual(coloured(LONGER_SECOND), ([4, 0, 0, 3, 2, 1, 4], [
            ("lay", 6, 0), ("lay", 5, 1), ("lay", 4, 2), ("lay", 3, 3), ("lay", 2, 4), ("lay", 1, 0),
            ("turn", 2, 4, 0), ("lay", 0, 4),
        ]))
        for m, first, third in ((LONGER_FIRST, 2, 1), (LONGER_SECOND, 3, 4)):
            self.assertTrue(is_map(m))
            near = neighbours(m)[0]
            self.assertEqual((near[0], near[2]), (first, third))

    def test_roads_that_lead_to_a_neighbour_again_do_not_count(self):
        # The turn leads twice to its first neighbour, and to place 0 itself, ahead of the next one.
        m = [[-9, -8, -7, 7, -6, -5, -4], [4], [5], [6], [8, 9]]
        self.assertTrue(is_map(m))
        self.assertEqual(neighbours(m)[0], [4, 3, 2, 1])
        self.assertEqual(coloured(m)[0], [4, 3, 2, 1, 0])
        m = [[-9, -8, -7, 7, -6, -5, -4, -3], [3], [4], [5], [6], [8, 9]]
        self.assertTrue(is_map(m))
        self.assertEqual(coloured(m)[1][-2:], [("turn", 5, 0, 2), ("lay", 0, 0)])

    def test_all_places_of_a_chain_are_changed(self):
        seen = {}
        for seed, places in itertools.product(range(40), (9, 13, 18)):
            m = shuffled(flat_map(seed, places, 64), seed)
            near = neighbours_by_roads(m)
            told, log = coloured(m)
            ahead = [None] * len(m)
            for number, (step, colours) in enumerate(zip(log, colours_along(m, log))):
                if step[0] == "turn":
                    links = chain_by_growth(m, ahead, *step[1:])
                    laid = [there for there in near[log[number + 1][1]] if ahead[there] is not None]
                    spot = laid.index(step[1])
                    seen.setdefault(spot, []).append(len(links))
                    self.assertEqual(step[2:], (ahead[laid[spot]], ahead[laid[spot + 2]]))
                    self.assertEqual(log[number + 1][2], step[2])
                    self.assertNotIn(laid[spot + 2], links)
                ahead = colours
            self.assertEqual(told, ahead)
        # The chain of the first one and that of the second one were changed, long ones too.
        self.assertEqual(set(seen), {0, 1})
        self.assertTrue(max(seen[0]) >= 3 and max(seen[1]) >= 2, seen)

    def test_the_order_in_which_places_are_laid(self):
        for m in flat_maps():
            order = [step[1] for step in coloured(m)[1] if step[0] == "lay"]
            self.assertEqual(order[::-1], taken_out_by_words(neighbours_by_roads(m)))

    def test_behind_each_step_no_two_laid_neighbours_have_the_same_colour(self):
        turns = 0
        for m in flat_maps():
            told, log = coloured(m)
            near = neighbours_by_roads(m)
            ahead = [None] * len(m)
            for number, (step, colours) in enumerate(zip(log, colours_along(m, log))):
                if step[0] == "turn":
                    turns += 1
                    self.assertEqual(log[number + 1][0], "lay")
                    self.assertEqual(ahead[step[1]], step[2])
                else:
                    self.assertIsNone(ahead[step[1]])
                self.assertEqual(clashes(near, colours), [])
                ahead = colours
            self.assertEqual(ahead, told)
            self.assertLessEqual(set(told), set(range(5)))
        self.assertGreater(turns, 20)

    def test_many_maps(self):
        for m in flat_maps():
            self.assertEqual(coloured(m), coloured_by_words(m))
        for seed, places in itertools.product(range(20), (8, 12, 16, 22)):
            m = shuffled(flat_map(seed, places, 64), seed)
            self.assertEqual(coloured(m), coloured_by_words(m))

    def test_at_the_bounds(self):
        for m in (prism(21), ring(64), way(64), star(64), way(70), loops_at_one_place(64),
                  [[]] * 128 + lone_roads(1, 64), [[]] * 128 + flat_map(3, 22, 64)):
            self.assertEqual(coloured(m), coloured_by_words(m))
            self.assertEqual(clashes(neighbours_by_roads(m), coloured(m)[0]), [])

    def test_kinds(self):
        for m in (FIVE, FIVE_AND_ONE, LONGER_FIRST, LONGER_SECOND, [], [[]]):
            told = coloured(m)
            self.assertEqual([type(part) for part in told], [list, list])
            self.assertLessEqual({type(colour) for colour in told[0]}, {int})
            self.assertLessEqual({type(step) for step in told[1]}, {tuple})

    def test_crossed(self):
        self.assertEqual(answer(coloured, [[-2, 1, 2, -1]]), refusal("Crossed", one=2, two=1))
        self.assertEqual(answer(coloured, [[-3, -1, -2], [1, 2, 3]]), refusal("Crossed", one=1, two=2))
        self.assertEqual(answer(coloured, [[], [-9, 9], [-2, 1, 2, -1]]), refusal("Crossed", one=2, two=1))
        self.assertEqual(answer(coloured, [[-4, 3, 4, -3], [-2, 1, 2, -1]]), refusal("Crossed", one=4, two=3))
        for m in (handed_round(32), wrapped_grid(4, 8), together(ring(3), apart(handed_round(2), 10))):
            self.assertEqual(answer(coloured, m), crossing_of(m))

    def test_crossed_just_where_there_are_handles(self):
        maps = itertools.chain(small_maps(), all_maps(3), (chain_end(seed, 40)[1] for seed in range(450, 480)))
        for m in maps:
            told = answer(coloured, m)
            self.assertEqual(told, crossing_of(m) if handle_count(m) else coloured_by_words(m))


class LandsColouredTest(unittest.TestCase):

    def test_in_the_order_of_lands(self):
        self.assertEqual(lands_coloured([]), [])
        self.assertEqual(lands_coloured([[], []]), [1, 0])
        # The lands of a road from a place to itself are [-1] and [1].
        self.assertEqual(lands_coloured([[-1, 1]]), [1, 0])
        self.assertEqual(lands_coloured([[-1], [1]]), [0])
        # The lands of a ring are the one of the ends below 0 and the one of those above.
        self.assertEqual(lands([[-3, 1], [-2, 3], [-1, 2]]), [[-3, -2, -1], [1, 2, 3]])
        self.assertEqual(lands_coloured([[-3, 1], [-2, 3], [-1, 2]]), [1, 0])

    def test_five_lands_round_one(self):
        # The other map of FIVE, in which five roads lead from a place to itself and close five lands within a sixth.
        m = other_by_steps(FIVE)
        self.assertEqual(m, [[-5, 5, -4, 4, -3, 3, -2, 2, -1, 1]])
        self.assertEqual(lands_coloured(m), [0, 4, 3, 2, 1, 2])

    def test_many_maps(self):
        for m in flat_maps():
            told = lands_coloured(m)
            self.assertEqual(told, coloured_by_words(other_by_steps(m))[0])
            self.assertEqual(clashes(neighbours_by_roads(other_by_steps(m)), told), [])

    def test_crossed_by_the_crossing_of_the_other_map(self):
        refused = 0
        maps = itertools.chain(small_maps(), all_maps(3), (chain_end(seed, 40)[1] for seed in range(480, 500)),
                               (handed_round(5), wrapped_grid(3, 3)))
        for m in maps:
            if handle_count(m):
                self.assertEqual(answer(lands_coloured, m), crossing_of(other_by_steps(m)))
                refused += crossing_of(m) != crossing_of(other_by_steps(m))
            else:
                self.assertFalse(is_refusal(answer(lands_coloured, m)))
        # In some of them the map's own crossing is another one.
        self.assertGreater(refused, 5)


if __name__ == "__main__":
    unittest.main()
