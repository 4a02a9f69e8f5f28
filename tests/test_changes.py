"""Changes, what leads back from them, their other changes and lists of them: points 16 to 24."""

import inspect
import unittest

from made import (
    all_changes, answer, chain, changed_by_steps, fresh, is_refusal, lone_roads, looped_roads, refusal, small_maps,
)
from mapround import changes
from mapround.changes import Change, Cut, Draw, Found, Part, Put, Raze, back_all, done_all
from mapround.lands import lands
from mapround.turns import before, is_map, map_of

LOOP = [[-1, 1]]
WAY = [[-1], [1]]
# Two roads from one place to itself, one across the other.
HANDLE = [[-2, 1, 2, -1]]
# Places 0 and 1 are bare; road 4 leads from place 2 to itself.
SAMPLE = [[], [], [-4, 4, -1], [-3, 1, 2], [-2], [3]]
SIXTY = 10 ** 60 - 1
FIELDS = {
    Put: ["road", "first", "second"], Cut: ["road"], Part: ["road", "first", "second"],
    Draw: ["road"], Found: [], Raze: [],
}


def bare(many):
    return [[] for _ in range(many)]


class Telling(unittest.TestCase):

    def tells(self, change, m, expected):
        with self.subTest(change=change.told(), m=m):
            self.assertEqual(answer(change.done, m), expected)

    def refused(self, change, m, name, **fields):
        """Refused when it is done and when what leads back is asked for."""
        with self.subTest(change=change.told(), m=m):
            self.assertEqual(answer(change.done, m), refusal(name, **fields))
            self.assertEqual(answer(change.back, m), refusal(name, **fields))


class WordsTest(unittest.TestCase):

    def test_told(self):
        self.assertEqual(Put(5, 1, -2).told(), ("put", 5, 1, -2))
        self.assertEqual(Put(5, None, 5).told(), ("put", 5, None, 5))
        self.assertEqual(Put(5, 3, None).told(), ("put", 5, 3, None))
        self.assertEqual(Cut(5).told(), ("cut", 5))
        self.assertEqual(Part(5, -1, 2).told(), ("part", 5, -1, 2))
        self.assertEqual(Part(SIXTY, None, None).told(), ("part", SIXTY, None, None))
        self.assertEqual(Draw(5).told(), ("draw", 5))
        self.assertEqual(Found().told(), ("found",))
        self.assertEqual(Raze().told(), ("raze",))

    def test_fields(self):
        for kind, fields in FIELDS.items():
            values = [7, None, -3][:len(fields)]
            with self.subTest(kind=kind):
                self.assertEqual(vars(kind(*values)), dict(zip(fields, values)))
                self.assertEqual(vars(kind(**dict(zip(fields, values)))), dict(zip(fields, values)))
                self.assertEqual(list(inspect.signature(kind).parameters), fields)

    def test_classes(self):
        for kind in FIELDS:
            for other in FIELDS:
                with self.subTest(kind=kind, other=other):
                    self.assertTrue(issubclass(kind, Change))
                    self.assertEqual(issubclass(kind, other), kind is other)

    def test_methods_and_arguments(self):
        for kind in [Change] + list(FIELDS):
            for name, things in (("done", ["self", "m"]), ("back", ["self", "m"]), ("other", ["self"]),
                                 ("told", ["self"])):
                with self.subTest(kind=kind, name=name):
                    self.assertEqual(list(inspect.signature(getattr(kind, name)).parameters), things)
        for function in (done_all, back_all):
            self.assertEqual(list(inspect.signature(function).parameters), ["m", "changes"])
        self.assertTrue(inspect.isclass(changes.Change))

    def test_changes_of_the_same_words_are_equal(self):
        told = [Put(1, 2, 3), Put(1, 3, 2), Part(1, 2, 3), Put(1, None, 3), Cut(1), Cut(2), Draw(1), Found(), Raze()]
        again = [Put(1, 2, 3), Put(1, 3, 2), Part(1, 2, 3), Put(1, None, 3), Cut(1), Cut(2), Draw(1), Found(), Raze()]
        for k, one in enumerate(told):
            for n, two in enumerate(again):
                self.assertEqual(one == two, k == n)
        self.assertFalse(Found() == ("found",))


class PutTest(Telling):

    def test_behind_ends(self):
        self.tells(Put(5, 1, -1), LOOP, [[-5, 1, 5, -1]])
        self.tells(Put(5, -1, 1), LOOP, [[-5, -1, 5, 1]])
        self.tells(Put(5, 1, -1), WAY, [[-5, -1], [1, 5]])
        self.tells(Put(5, -2, 3), SAMPLE, [[], [], [-5, 3], [-4, 4, -1], [-3, 1, 2], [-2, 5]])

    def test_both_behind_the_same_end(self):
        self.tells(Put(5, 1, 1), LOOP, [[-5, 5, -1, 1]])
        self.tells(Put(5, 2, 2), SAMPLE, [[], [], [-5, 5, -3, 1, 2], [-4, 4, -1], [-2], [3]])

    def test_the_other_end_behind_the_road_itself(self):
        self.tells(Put(5, 1, 5), LOOP, [[-5, -1, 1, 5]])
        self.tells(Put(5, -1, 5), LOOP, [[-5, 1, -1, 5]])
        self.tells(Put(5, None, 5), [[]], [[-5, 5]])
        self.tells(Put(5, None, 5), [[], [], [-1, 1]], [[], [-5, 5], [-1, 1]])

    def test_alone(self):
        self.tells(Put(5, None, None), [[], []], [[-5], [5]])
        self.tells(Put(5, None, None), [[], [], [], [-1, 1]], [[], [-5], [-1, 1], [5]])
        self.tells(Put(5, 1, None), [[], [], [-1, 1]], [[], [-5], [-1, 1, 5]])
        self.tells(Put(5, None, 1), [[], [], [-1, 1]], [[], [-5, -1, 1], [5]])

    def test_sixty_figures(self):
        self.tells(Put(SIXTY, None, None), [[], []], [[-SIXTY], [SIXTY]])
        self.tells(Put(SIXTY, 1, -1), WAY, [[-SIXTY, -1], [1, SIXTY]])

    def test_more_figures_are_not_refused(self):
        self.tells(Put(10 ** 60, None, 10 ** 60), [[]], [[-10 ** 60, 10 ** 60]])

    def test_taken(self):
        for m in (LOOP, WAY, HANDLE, SAMPLE):
            for first, second in ((1, 1), (None, None), (1, None), (9, 9), (0, None), (1, 9)):
                self.refused(Put(1, first, second), m, "Taken", road=1)
        self.refused(Put(4, 1, 1), SAMPLE, "Taken", road=4)

    def test_first_not_there(self):
        for first in (0, 9, -9, 5, -5, SIXTY, 10 ** 60, -10 ** 5000):
            self.refused(Put(5, first, 1), LOOP, "NotThere", end=first)
            self.refused(Put(5, first, None), [[]], "NotThere", end=first)
            self.refused(Put(5, first, 5), [], "NotThere", end=first)

    def test_first_without_a_place(self):
        self.refused(Put(5, None, 1), LOOP, "NoPlace")
        self.refused(Put(5, None, 5), [], "NoPlace")

    def test_second_not_there(self):
        for second in (0, 9, -9, -5, SIXTY, 10 ** 60, -10 ** 5000):
            self.refused(Put(5, 1, second), LOOP, "NotThere", end=second)
            self.refused(Put(5, None, second), [[]], "NotThere", end=second)

    def test_second_without_a_place(self):
        self.refused(Put(5, 1, None), LOOP, "NoPlace")
        self.refused(Put(5, None, None), [[]], "NoPlace")
        self.refused(Put(5, None, None), [[], [-1, 1]], "NoPlace")

    def test_first_comes_ahead_of_second(self):
        self.refused(Put(5, 9, 8), LOOP, "NotThere", end=9)
        self.refused(Put(5, 9, None), LOOP, "NotThere", end=9)
        self.refused(Put(5, None, 9), LOOP, "NoPlace")
        self.refused(Put(5, None, 9), [[], [-1, 1]], "NotThere", end=9)
        self.refused(Put(5, 5, -5), LOOP, "NotThere", end=5)

    def test_bound_of_roads(self):
        for m in (lone_roads(1, 63), looped_roads(1, 63)):
            self.assertEqual(len([end for turn in Put(64, 1, 64).done(m) for end in turn]), 128)
        for m in (lone_roads(1, 64), looped_roads(1, 64), bare(2) + lone_roads(1, 64), bare(128) + looped_roads(1, 64)):
            self.refused(Put(65, 1, -1), m, "TooMany")
            self.refused(Put(65, 1, 65), m, "TooMany")
            self.refused(Put(64, 1, -1), m, "Taken", road=64)
            self.refused(Put(65, 65, -1), m, "NotThere", end=65)
            self.refused(Put(65, 1, -65), m, "NotThere", end=-65)
        self.refused(Put(65, None, None), bare(2) + lone_roads(1, 64), "TooMany")
        self.refused(Put(65, None, None), bare(1) + lone_roads(1, 64), "NoPlace")
        self.refused(Put(65, None, 1), lone_roads(1, 64), "NoPlace")

    def test_bound_of_places_without_roads(self):
        self.tells(Put(1, None, None), bare(128), bare(126) + WAY)
        self.tells(Put(1, None, 1), bare(128), bare(127) + LOOP)
        self.tells(Put(2, 1, -1), bare(128) + WAY, bare(128) + [[-2, -1], [1, 2]])
        self.tells(Put(1, None, 1), bare(129), bare(128) + LOOP)
        self.refused(Put(2, 1, -1), bare(129) + WAY, "TooMany")


class CutTest(Telling):

    def test_turns_with_other_ends(self):
        self.tells(Cut(1), HANDLE, [[-2, 2]])
        self.tells(Cut(2), HANDLE, LOOP)
        self.tells(Cut(1), SAMPLE, [[], [], [-4, 4], [-3, 2], [-2], [3]])
        self.tells(Cut(4), SAMPLE, [[], [], [-3, 1, 2], [-2], [-1], [3]])

    def test_turns_without_other_ends(self):
        self.tells(Cut(1), WAY, [[], []])
        self.tells(Cut(1), LOOP, [[]])
        self.tells(Cut(3), SAMPLE, [[], [], [], [-4, 4, -1], [-2], [1, 2]])
        self.tells(Cut(2), SAMPLE, [[], [], [], [-4, 4, -1], [-3, 1], [3]])

    def test_good_order_where_the_least_end_goes(self):
        self.tells(Cut(5), [[-5, 3, -1, 2, 1], [-3, 5, -2]], [[-3, -2], [-1, 2, 1, 3]])

    def test_not_there(self):
        for road in (5, SIXTY, 10 ** 60):
            for m in ([], [[]], LOOP, SAMPLE):
                self.refused(Cut(road), m, "NotThere", end=road)
                self.refused(Draw(road), m, "NotThere", end=road)
        for m in ([], [[]], LOOP):
            self.refused(Cut(0), m, "NotThere", end=0)

    def test_bound_of_places_without_roads(self):
        self.tells(Cut(1), bare(126) + WAY, bare(128))
        self.refused(Cut(1), bare(127) + WAY, "TooMany")
        self.refused(Cut(1), bare(128) + WAY, "TooMany")
        self.tells(Cut(1), bare(127) + LOOP, bare(128))
        self.refused(Cut(1), bare(128) + LOOP, "TooMany")
        self.tells(Cut(1), bare(128) + HANDLE, bare(128) + [[-2, 2]])
        self.refused(Cut(9), bare(128) + LOOP, "NotThere", end=9)


class DrawTest(Telling):

    def test_a_road_between_two_places(self):
        self.tells(Draw(1), SAMPLE, [[], [], [-4, 4, 2, -3], [-2], [3]])
        self.tells(Draw(2), SAMPLE, [[], [], [-4, 4, -1], [-3, 1], [3]])
        self.tells(Draw(3), SAMPLE, [[], [], [-4, 4, -1], [-2], [1, 2]])
        # Round the one place come first the ends of the place of 5, then those of the place of -5.
        m = map_of([[5, 1, 2], [-5, 3, 4], [-1, -2, -3, -4]])
        self.tells(Draw(5), m, [[-4, -1, -2, -3], [1, 2, 3, 4]])

    def test_a_road_between_two_places_without_other_ends(self):
        self.tells(Draw(1), WAY, [[]])
        self.tells(Draw(1), [[]] + WAY, [[], []])

    def test_a_road_from_a_place_to_itself(self):
        self.tells(Draw(1), HANDLE, [[-2], [2]])
        m = map_of([[5, 1, 2, -5, 3, 4], [-1, -2, -3, -4]])
        self.tells(Draw(5), m, [[-4, -1, -2, -3], [1, 2], [3, 4]])

    def test_a_road_from_a_place_to_itself_with_no_ends_at_a_side(self):
        self.tells(Draw(1), LOOP, [[], []])
        self.tells(Draw(4), SAMPLE, [[], [], [], [-3, 1, 2], [-2], [-1], [3]])
        self.tells(Draw(2), [[-2, 1, -1, 2]], [[], LOOP[0]])
        self.tells(Draw(2), [[-2, 2, 1, -1]], [[], LOOP[0]])

    def test_bound_of_places_without_roads(self):
        self.tells(Draw(1), bare(127) + WAY, bare(128))
        self.refused(Draw(1), bare(128) + WAY, "TooMany")
        self.tells(Draw(1), bare(126) + LOOP, bare(128))
        self.refused(Draw(1), bare(127) + LOOP, "TooMany")
        self.tells(Draw(1), bare(128) + HANDLE, bare(128) + [[-2], [2]])
        self.refused(Draw(9), bare(128) + LOOP, "NotThere", end=9)


class PartTest(Telling):

    def test_small_parts(self):
        self.tells(Part(1, None, 1), [[]], WAY)
        self.tells(Part(1, None, None), [[], []], LOOP)
        self.tells(Part(2, 1, 1), LOOP, [[-2, 1, -1], [2]])
        self.tells(Part(5, 1, -4), SAMPLE, lands(Put(5, 1, -4).done(lands(SAMPLE))))

    def test_what_put_does_to_the_other_map(self):
        for m in (LOOP, WAY, HANDLE, SAMPLE):
            for first in (1, -1, None):
                for second in (1, -1, 5, None):
                    told = answer(Put(5, first, second).done, lands(m))
                    expected = told if is_refusal(told) else lands(told)
                    self.tells(Part(5, first, second), m, expected)

    def test_a_place_is_parted(self):
        m = map_of([[1, 2, 3, 4], [-1, -2, -3, -4]])
        parted = map_of([[5, 1, 2], [-5, 3, 4], [-1, -2, -3, -4]])
        self.assertEqual(Draw(5).done(parted), m)
        self.tells(Draw(5).back(parted), m, parted)
        self.assertEqual(Draw(5).back(parted).told(), ("part", 5, -2, -4))

    def test_refused_as_put_is(self):
        self.refused(Part(1, 9, 9), LOOP, "Taken", road=1)
        self.refused(Part(5, 9, 8), LOOP, "NotThere", end=9)
        self.refused(Part(5, 5, 5), LOOP, "NotThere", end=5)
        self.refused(Part(5, 0, None), LOOP, "NotThere", end=0)
        self.refused(Part(5, None, 9), LOOP, "NoPlace")
        self.refused(Part(5, 1, 9), LOOP, "NotThere", end=9)
        self.refused(Part(5, 1, -5), LOOP, "NotThere", end=-5)
        self.refused(Part(5, None, None), [[]], "NoPlace")
        self.refused(Part(65, 1, 65), lone_roads(1, 64), "TooMany")
        self.refused(Part(65, None, 65), bare(1) + looped_roads(1, 64), "TooMany")
        self.refused(Part(65, None, 65), looped_roads(1, 64), "NoPlace")

    def test_bound_of_places_without_roads(self):
        self.tells(Part(1, None, None), bare(128), bare(126) + LOOP)
        self.tells(Part(1, None, 1), bare(128), bare(127) + WAY)


class FoundAndRazeTest(Telling):

    def test_found(self):
        self.tells(Found(), [], [[]])
        self.tells(Found(), [[], [-1, 1]], [[], [], [-1, 1]])
        self.tells(Found(), bare(127) + lone_roads(1, 64), bare(128) + lone_roads(1, 64))

    def test_found_at_the_bound(self):
        self.refused(Found(), bare(128), "TooMany")
        self.refused(Found(), bare(128) + SAMPLE[2:], "TooMany")

    def test_raze(self):
        self.tells(Raze(), [[]], [])
        self.tells(Raze(), SAMPLE, SAMPLE[1:])
        self.tells(Raze(), bare(128), bare(127))

    def test_raze_refuses_nothing_for_the_bounds(self):
        self.tells(Raze(), bare(131), bare(130))

    def test_raze_without_a_place(self):
        self.refused(Raze(), [], "NoPlace")
        self.refused(Raze(), SAMPLE[2:], "NoPlace")


class BackTest(unittest.TestCase):

    def test_words(self):
        for change, m, told in (
            (Put(5, 1, None), SAMPLE, ("cut", 5)),
            (Part(5, 1, None), SAMPLE, ("draw", 5)),
            (Found(), SAMPLE, ("raze",)),
            (Raze(), SAMPLE, ("found",)),
            (Cut(1), SAMPLE, ("put", 1, -3, 4)),
            (Cut(2), SAMPLE, ("put", 2, 1, None)),
            (Cut(3), SAMPLE, ("put", 3, None, 2)),
            (Cut(1), WAY, ("put", 1, None, None)),
            (Draw(1), WAY, ("part", 1, None, 1)),
            (Draw(1), LOOP, ("part", 1, None, None)),
            (Draw(4), SAMPLE, ("part", 4, None, 1)),
        ):
            with self.subTest(change=change.told(), m=m):
                self.assertEqual(change.back(m).told(), told)

    def test_cut_of_a_road_from_a_place_to_itself(self):
        for m, told in (
            (LOOP, ("put", 1, None, 1)),
            # The road's other end stands right before the road: it is passed over.
            ([[-2, 2, -1, 1]], ("put", 1, 2, 2)),
            ([[-2], [-1, 1, 2]], ("put", 1, 2, 2)),
            # The road stands right before its other end.
            ([[-2, 2, 1, -1]], ("put", 1, 2, 1)),
            ([[-2], [-1, 2, 1]], ("put", 1, 2, 1)),
            (HANDLE, ("put", 1, -2, 2)),
        ):
            with self.subTest(m=m):
                self.assertEqual(Cut(1).back(m).told(), told)
                self.assertEqual(Cut(1).back(m).done(Cut(1).done(m)), m)

    def test_the_ends_told_by_what_stands_before(self):
        for m in small_maps():
            for turn in m:
                for road in [end for end in turn if end > 0]:
                    first = before(m, road)
                    if first == -road:
                        first = before(m, first)
                    second = before(m, -road)
                    told = ("put", road, None if first == road else first, None if second == -road else second)
                    with self.subTest(m=m, road=road):
                        self.assertEqual(Cut(road).back(m).told(), told)
                        self.assertEqual(Draw(road).back(lands(m)).told(), ("part",) + told[1:])

    def test_kinds(self):
        for change, kind in ((Put(5, 1, 1), Cut), (Cut(1), Put), (Part(5, 1, 1), Draw), (Draw(1), Part),
                             (Found(), Raze), (Raze(), Found)):
            self.assertIs(type(change.back(SAMPLE)), kind)


class OtherTest(unittest.TestCase):

    def test_words(self):
        for one, two in ((Put(5, 1, None), Part(5, 1, None)), (Put(3, None, 3), Part(3, None, 3)), (Cut(7), Draw(7)),
                         (Found(), Found()), (Raze(), Raze())):
            for change, other in ((one, two), (two, one)):
                with self.subTest(change=change.told()):
                    self.assertIs(type(change.other()), type(other))
                    self.assertEqual(change.other().told(), other.told())
                    self.assertEqual(vars(change.other()), vars(other))


class EveryChangeTest(unittest.TestCase):
    """Done, led back and done to the other map: for many changes of each of the small maps."""

    def test_done(self):
        for m in small_maps():
            for change in all_changes(m):
                told = answer(change.done, m)
                self.assertEqual(told, changed_by_steps(change, m), (change.told(), m))
                if not is_refusal(told):
                    self.assertTrue(is_map(told), (change.told(), m))

    def test_back(self):
        for m in small_maps():
            for change in all_changes(m):
                told = answer(change.done, m)
                back = answer(change.back, m)
                if is_refusal(told):
                    self.assertEqual(back, told, (change.told(), m))
                else:
                    self.assertEqual(back.done(told), m, (change.told(), m))

    def test_other(self):
        for m in small_maps():
            over = lands(m)
            for change in all_changes(m):
                told = answer(change.done, m)
                expected = told if is_refusal(told) else lands(told)
                self.assertEqual(answer(change.other().done, over), expected, (change.told(), m))


class ListsOfChangesTest(unittest.TestCase):

    def test_no_changes(self):
        for m in ([], [[]], SAMPLE):
            self.assertEqual(done_all(m, []), m)
            self.assertEqual(back_all(m, []), [])

    def test_one_after_another(self):
        steps = [Put(5, None, 3), Cut(1), Draw(4), Part(6, 2, 5), Found(), Raze(), Raze()]
        told = fresh(SAMPLE)
        for change in steps:
            told = change.done(told)
        self.assertEqual(done_all(SAMPLE, steps), told)
        backs = back_all(SAMPLE, steps)
        self.assertEqual([back.told()[0] for back in backs], ["found", "found", "raze", "draw", "part", "put", "cut"])
        self.assertEqual(backs[-1].told(), ("cut", 5))
        self.assertEqual(done_all(told, backs), SAMPLE)

    def test_each_is_told_for_the_map_ahead_of_it(self):
        steps = [Found(), Found(), Put(1, None, None), Cut(1)]
        self.assertEqual(done_all([], steps), [[], []])
        self.assertEqual([back.told() for back in back_all([], steps)],
                         [("put", 1, None, None), ("cut", 1), ("raze",), ("raze",)])

    def test_one_change_more_than_once(self):
        found = Found()
        self.assertEqual(done_all([], [found, found, found]), [[], [], []])
        self.assertEqual([back.told() for back in back_all([], [found, found])], [("raze",), ("raze",)])

    def test_many(self):
        for seed in range(12):
            start, steps = chain(seed, 120)
            with self.subTest(seed=seed):
                told = done_all(start, steps)
                backs = back_all(start, steps)
                self.assertEqual(len(backs), len(steps))
                self.assertEqual(done_all(told, backs), start)
                # What leads back from there leads to the map behind all of them again.
                self.assertEqual(done_all(start, back_all(told, backs)), told)
                over = [change.other() for change in steps]
                self.assertEqual(done_all(lands(start), over), lands(told))

    def test_three_hundred(self):
        steps = [Found(), Raze()] * 150
        self.assertEqual(done_all(SAMPLE, steps), SAMPLE)
        self.assertEqual(done_all(SAMPLE, back_all(SAMPLE, steps)), SAMPLE)

    def test_the_first_refused_one_is_refused(self):
        for steps, expected in (
            ([Cut(9)], refusal("NotThere", end=9)),
            ([Cut(1), Cut(1), Raze()], refusal("NotThere", end=1)),
            ([Put(5, 1, 1), Put(5, 1, 1), Cut(9)], refusal("Taken", road=5)),
            ([Found(), Put(5, 1, 7), Cut(9)], refusal("NotThere", end=7)),
            ([Raze(), Raze(), Raze(), Cut(9)], refusal("NoPlace")),
            ([Raze(), Part(5, None, None)], refusal("NoPlace")),
            ([Found()] * 127 + [Cut(9)], refusal("TooMany")),
            ([Draw(2), Draw(2)], refusal("NotThere", end=2)),
        ):
            with self.subTest(steps=[change.told() for change in steps][-4:]):
                self.assertEqual(answer(done_all, SAMPLE, steps), expected)
                self.assertEqual(answer(back_all, SAMPLE, steps), expected)


if __name__ == "__main__":
    unittest.main()
