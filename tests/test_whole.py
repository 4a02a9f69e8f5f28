"""The whole: what holds for every map that is told, after any number of changes: point 3."""

import unittest

from made import all_maps, answer, chain, changed_by_steps, fresh, is_refusal, other_by_steps, pieces_by_names
from mapround.lands import counts, handles, lands, mirror
from mapround.pieces import joined, pieces
from mapround.texts import read, shown
from mapround.turns import is_map


class WholeTest(unittest.TestCase):

    def holds(self, m):
        """The sum and the other map's other map, with all numbers reckoned here once more."""
        self.assertTrue(is_map(m), m)
        over = lands(m)
        self.assertTrue(is_map(over), m)
        self.assertEqual(over, other_by_steps(m))
        self.assertEqual(lands(over), m)
        twice = 2 * len(pieces_by_names(m)) - len(m) + sum(len(turn) for turn in m) // 2 - len(over)
        self.assertEqual(twice % 2, 0, m)
        self.assertGreaterEqual(twice, 0, m)
        roads = sum(len(turn) for turn in m) // 2
        self.assertEqual(counts(m), (len(m), roads, len(over), len(pieces_by_names(m)), twice // 2))
        self.assertEqual(handles(m), twice // 2)
        self.assertEqual(joined(pieces(m)), m)

    def test_every_map_of_at_most_three_roads(self):
        for roads, bare in ((0, 0), (0, 1), (0, 4), (1, 0), (1, 2), (2, 0), (2, 3), (3, 0), (3, 1)):
            for m in all_maps(roads, bare):
                self.holds(m)

    def test_maps_told_by_rows(self):
        for m in all_maps(2, 1):
            rows = shown(m)
            self.holds(read(rows[::-1]))

    def test_every_map_along_chains_of_changes(self):
        for seed in range(100, 120):
            m, changes = chain(seed, 60)
            for change in changes:
                told = change.done(fresh(m))
                self.assertEqual(told, changed_by_steps(change, m))
                self.holds(told)
                self.assertEqual(mirror(mirror(told)), told)
                self.assertEqual(change.back(m).done(told), m)
                self.assertEqual(change.other().done(lands(m)), lands(told))
                m = told

    def test_along_the_same_chains_many_changes_are_refused_alike(self):
        refused = 0
        for seed in range(100, 110):
            m, changes = chain(seed, 40)
            later = changes[::-1]
            for change, odd in zip(changes, later):
                told = answer(odd.done, m)
                self.assertEqual(told, changed_by_steps(odd, m))
                if is_refusal(told):
                    refused += 1
                    self.assertEqual(answer(odd.back, m), told)
                    self.assertEqual(answer(odd.other().done, lands(m)), told)
                m = change.done(m)
        self.assertGreater(refused, 50)


if __name__ == "__main__":
    unittest.main()
