"""Road ends, turns, maps and good order: points 4 to 8."""

import itertools
import unittest

from mapround.errors import Lone, NoEnd, NotThere, TooMany, Twice
from mapround.turns import (
    after, before, ends_of, is_map, map_of, nexts, places_at, roads_of, turned,
)

SIXTY = 10 ** 60 - 1
SIXTY_ONE = 10 ** 60

# Places 0 and 1 are bare; road 4 leads from place 2 to itself.
SAMPLE = [[], [], [-4, 4, -1], [-3, 1, 2], [-2], [3]]


def roads_in_one_turn(first, last):
    turn = []
    for road in range(first, last + 1):
        turn += [road, -road]
    return turn


class Refusing(unittest.TestCase):

    def refused(self, kind, field, function, *things):
        with self.assertRaises(kind) as caught:
            function(*things)
        self.assertIs(type(caught.exception), kind)
        fields = {} if field is None else {"end": field}
        self.assertEqual(vars(caught.exception), fields)


class RoadEndTest(Refusing):

    def test_sixty_figures_are_an_end(self):
        for road in (1, 9, SIXTY, 10 ** 59):
            with self.subTest(road=road):
                self.assertEqual(map_of([[road], [-road]]), [[-road], [road]])
                self.assertTrue(is_map([[-road], [road]]))

    def test_sixty_one_figures_are_no_end(self):
        for number in (SIXTY_ONE, -SIXTY_ONE, SIXTY_ONE + 1, -SIXTY_ONE - 1, 10 ** 5000, -10 ** 5000):
            with self.subTest(bits=number.bit_length()):
                self.refused(NoEnd, number, map_of, [[number], [-number]])
                self.assertFalse(is_map(sorted([[number], [-number]])))

    def test_nought_is_no_end(self):
        self.refused(NoEnd, 0, map_of, [[0]])
        self.refused(NoEnd, 0, map_of, [[1, -1], [0]])
        self.assertFalse(is_map([[0]]))

    def test_the_other_end_is_the_number_with_the_other_sign(self):
        self.assertEqual(map_of([[5, -5]]), [[-5, 5]])
        self.refused(Lone, 5, map_of, [[5, -6]])


class TurnedTest(unittest.TestCase):

    def test_empty_turn(self):
        self.assertEqual(turned([]), [])

    def test_one_end(self):
        self.assertEqual(turned([7]), [7])
        self.assertEqual(turned([-7]), [-7])

    def test_a_turn_begins_with_its_least_end(self):
        self.assertEqual(turned([2, -9]), [-9, 2])
        self.assertEqual(turned([4, 1, 3]), [1, 3, 4])
        self.assertEqual(turned([4, 3, 1]), [1, 4, 3])
        self.assertEqual(turned([-1, -2, -3]), [-3, -1, -2])

    def test_any_beginning_tells_the_same_turn(self):
        turn = [-9, 2, -3, 9, 3, 5]
        for start in range(len(turn)):
            with self.subTest(start=start):
                self.assertEqual(turned(turn[start:] + turn[:start]), turn)

    def test_all_orders_of_four(self):
        for ends in itertools.permutations([-2, -1, 1, 3]):
            with self.subTest(ends=ends):
                found = turned(list(ends))
                start = ends.index(-2)
                self.assertEqual(found, [ends[(start + k) % 4] for k in range(4)])

    def test_numbers_that_are_no_ends_are_turned_too(self):
        self.assertEqual(turned([SIXTY_ONE, 0, -SIXTY_ONE]), [-SIXTY_ONE, SIXTY_ONE, 0])

    def test_a_new_list_is_given(self):
        for ends in ([], [1], [1, 2], [2, 1]):
            self.assertIsNot(turned(ends), ends)


class MapOfTest(Refusing):

    def test_map_without_places(self):
        self.assertEqual(map_of([]), [])

    def test_places_without_roads(self):
        self.assertEqual(map_of([[]]), [[]])
        self.assertEqual(map_of([[], [], []]), [[], [], []])

    def test_good_order(self):
        self.assertEqual(map_of([[3], [2, -3, 1], [], [-1, -4, 4], [-2], []]), SAMPLE)

    def test_turns_in_any_order(self):
        for turns in itertools.permutations(SAMPLE):
            self.assertEqual(map_of([list(turn) for turn in turns]), SAMPLE)

    def test_turns_with_any_beginnings(self):
        for one in range(3):
            for two in range(3):
                turns = [list(turn) for turn in SAMPLE]
                turns[2] = turns[2][one:] + turns[2][:one]
                turns[3] = turns[3][two:] + turns[3][:two]
                self.assertEqual(map_of(turns), SAMPLE)
                self.assertEqual(map_of(turns[::-1]), SAMPLE)

    def test_the_order_in_a_turn_is_kept(self):
        self.assertEqual(map_of([[1, 2, -1, -2]]), [[-2, 1, 2, -1]])
        self.assertEqual(map_of([[1, -1, 2, -2]]), [[-2, 1, -1, 2]])

    def test_places_are_sorted_by_their_least_ends_as_numbers(self):
        self.assertEqual(map_of([[10], [9], [-9], [-10]]), [[-10], [-9], [9], [10]])

    def test_no_end_tells_the_first_such_number(self):
        self.refused(NoEnd, SIXTY_ONE, map_of, [[1, SIXTY_ONE], [0, -1]])
        self.refused(NoEnd, 0, map_of, [[1], [0, -1, -SIXTY_ONE]])
        self.refused(NoEnd, -SIXTY_ONE, map_of, [[], [-SIXTY_ONE, SIXTY_ONE]])

    def test_twice_in_one_turn(self):
        self.refused(Twice, 1, map_of, [[1, -1, 1]])
        self.refused(Twice, -1, map_of, [[-1, -1]])

    def test_twice_in_two_turns(self):
        self.refused(Twice, -1, map_of, [[1, -1], [-1]])

    def test_twice_tells_the_first_that_was_told_before(self):
        self.refused(Twice, 2, map_of, [[1, 2, 2, 1], [-1, -2]])
        self.refused(Twice, -2, map_of, [[-1, -2], [1, 2], [-2, -1]])
        self.refused(Twice, -1, map_of, [[-1, -2], [1, 2], [-1, -2]])

    def test_both_ends_of_a_road_are_not_twice(self):
        self.assertEqual(map_of([[1, -1]]), [[-1, 1]])

    def test_lone(self):
        self.refused(Lone, 1, map_of, [[1]])
        self.refused(Lone, -1, map_of, [[-1]])

    def test_lone_tells_the_first_such_number(self):
        self.refused(Lone, 9, map_of, [[4, -4], [9, 3], [2]])
        self.refused(Lone, -3, map_of, [[], [4, -3], [2, -4]])

    def test_an_other_end_told_later_is_not_missing(self):
        self.refused(Lone, 3, map_of, [[1, 2], [3], [-1], [-2]])

    def test_bound_of_road_ends(self):
        self.assertEqual(len(ends_of(map_of([roads_in_one_turn(1, 64)]))), 128)
        self.refused(TooMany, None, map_of, [roads_in_one_turn(1, 65)])
        ends = ends_of([roads_in_one_turn(1, 65)])
        self.refused(TooMany, None, map_of, [[end] for end in ends])
        ends = [end for end in ends if abs(end) < 65]
        self.assertEqual(map_of([[end] for end in ends]), [[end] for end in ends])

    def test_bound_of_places_without_roads(self):
        self.assertEqual(map_of([[]] * 128), [[]] * 128)
        self.refused(TooMany, None, map_of, [[]] * 129)

    def test_both_bounds_at_once(self):
        ends = ends_of([roads_in_one_turn(1, 64)])
        places = [[end] for end in ends]
        self.assertEqual(map_of(places + [[]] * 128), [[]] * 128 + places)
        self.refused(TooMany, None, map_of, places + [[]] * 129)
        self.refused(TooMany, None, map_of, places + [[65], [-65]] + [[]] * 128)

    def test_no_end_comes_ahead_of_all(self):
        self.refused(NoEnd, 0, map_of, [[1, 1], [2], [0]])
        self.refused(NoEnd, 0, map_of, [[0, 0]])
        self.refused(NoEnd, 0, map_of, [[1, 1, 0]])
        self.refused(NoEnd, 0, map_of, [[1], [0]])
        self.refused(NoEnd, 0, map_of, [[]] * 129 + [[0]])
        self.refused(NoEnd, SIXTY_ONE, map_of, [roads_in_one_turn(1, 65), [SIXTY_ONE]])

    def test_twice_comes_ahead_of_lone_and_too_many(self):
        self.refused(Twice, 1, map_of, [[3, 1, 1]])
        self.refused(Twice, 1, map_of, [[3], [1, -1], [1]])
        self.refused(Twice, 65, map_of, [roads_in_one_turn(1, 65), [65]])
        self.refused(Twice, -1, map_of, [[]] * 129 + [[1, -1], [-1]])

    def test_lone_comes_ahead_of_too_many(self):
        self.refused(Lone, 66, map_of, [roads_in_one_turn(1, 65), [66]])
        self.refused(Lone, 1, map_of, [[]] * 129 + [[1]])


class IsMapTest(unittest.TestCase):

    def test_maps_in_good_order(self):
        for m in ([], [[]], [[], []], [[-1, 1]], [[-1], [1]], [[], [-2, 1], [-1, 2]], SAMPLE):
            with self.subTest(m=m):
                self.assertIs(is_map(m), True)

    def test_maps_that_are_not_in_good_order(self):
        for turns in (
            [[1, -1]],
            [[1], [-1]],
            [[-1, 1], []],
            [[-2, 1], [2, -1]],
            [[-1, 2], [-2, 1]],
            [[], [-1, 1], []],
        ):
            with self.subTest(turns=turns):
                self.assertIs(is_map(turns), False)
                self.assertIs(is_map(map_of(turns)), True)

    def test_what_is_no_map(self):
        for turns in ([[0]], [[-1, -1]], [[-1, 1], [1]], [[1]], [[-1], [2]], [[-SIXTY_ONE, SIXTY_ONE]]):
            with self.subTest(turns=turns):
                self.assertIs(is_map(turns), False)

    def test_bounds(self):
        self.assertIs(is_map([turned(roads_in_one_turn(1, 64))]), True)
        self.assertIs(is_map([turned(roads_in_one_turn(1, 65))]), False)
        self.assertIs(is_map([[]] * 128), True)
        self.assertIs(is_map([[]] * 129), False)
        self.assertIs(is_map([[]] * 128 + [turned(roads_in_one_turn(1, 64))]), True)


class ListsOfAMapTest(unittest.TestCase):

    def test_ends_and_roads(self):
        self.assertEqual(ends_of(SAMPLE), [-4, -3, -2, -1, 1, 2, 3, 4])
        self.assertEqual(roads_of(SAMPLE), [1, 2, 3, 4])
        self.assertEqual(ends_of([[-20, 3], [-3, 20]]), [-20, -3, 3, 20])
        self.assertEqual(roads_of([[-20, 3], [-3, 20]]), [3, 20])

    def test_without_roads(self):
        for m in ([], [[]], [[], []]):
            with self.subTest(m=m):
                self.assertEqual(ends_of(m), [])
                self.assertEqual(roads_of(m), [])
                self.assertEqual(places_at(m), {})
                self.assertEqual(nexts(m), {})

    def test_places_at(self):
        self.assertEqual(places_at(SAMPLE), {-4: 2, 4: 2, -1: 2, -3: 3, 1: 3, 2: 3, -2: 4, 3: 5})

    def test_nexts(self):
        self.assertEqual(nexts(SAMPLE), {-3: 1, 1: 2, 2: -3, -4: 4, 4: -1, -1: -4, -2: -2, 3: 3})


class AfterBeforeTest(Refusing):

    def test_after(self):
        self.assertEqual([after(SAMPLE, end) for end in (-3, 1, -4, 4)], [1, 2, 4, -1])

    def test_before(self):
        self.assertEqual([before(SAMPLE, end) for end in (1, 2, 4, -1)], [-3, 1, -4, 4])

    def test_last_end_of_a_turn(self):
        self.assertEqual(after(SAMPLE, 2), -3)
        self.assertEqual(before(SAMPLE, -3), 2)
        self.assertEqual(after(SAMPLE, -1), -4)
        self.assertEqual(before(SAMPLE, -4), -1)

    def test_turn_of_one_end(self):
        for end in (-2, 3):
            self.assertEqual(after(SAMPLE, end), end)
            self.assertEqual(before(SAMPLE, end), end)

    def test_each_leads_back_from_the_other(self):
        for end in ends_of(SAMPLE):
            self.assertEqual(before(SAMPLE, after(SAMPLE, end)), end)
            self.assertEqual(after(SAMPLE, before(SAMPLE, end)), end)

    def test_not_there(self):
        for function in (after, before):
            for m in ([], [[]], [[-1, 1]], SAMPLE):
                for number in (0, 5, -5, SIXTY, SIXTY_ONE, -10 ** 5000):
                    with self.subTest(function=function, m=m, bits=number.bit_length()):
                        self.refused(NotThere, number, function, m, number)


if __name__ == "__main__":
    unittest.main()
