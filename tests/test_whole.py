"""The whole: what holds for every map that is told, after any number of changes: point 3."""

import itertools
import unittest

from made import (
    alike_by_pieces, all_maps, answer, chain, changed_by_steps, fresh, is_laying, is_refusal, least_by_list,
    mirror_by_steps, other_by_steps, pieces_by_names, shuffled, small_maps,
)
from mapround.changes import done_all
from mapround.codes import codes
from mapround.lands import counts, handles, lands, mirror
from mapround.likeness import compared
from mapround.pieces import joined, pieces
from mapround.texts import read, shown
from mapround.turns import is_map
from mapround.walks import crossing


class WholeTest(unittest.TestCase):

    def holds(self, m):
        """The sum and the other map's other map, with all numbers reckoned here once more."""
        self.assertTrue(is_map(m), m)
        over = lands(m)
        self.assertTrue(is_map(over), m)
        self.assertEqual(over, other_by_steps(m))
        self.assertEqual(lands(over), m)
        twice = 2 * len(pieces_by_names(m)) - len(m) + sum(len(turn) for turn in m) // 2 - len(over)
        self.assertEqual(twice % 2, 0, m)
        self.assertGreaterEqual(twice, 0, m)
        roads = sum(len(turn) for turn in m) // 2
        self.assertEqual(counts(m), (len(m), roads, len(over), len(pieces_by_names(m)), twice // 2))
        self.assertEqual(handles(m), twice // 2)
        self.assertEqual(joined(pieces(m)), m)
        self.assertEqual(crossing(m) is None, twice == 0, m)

    def laid_or_told_apart(self, m, n):
        """Two maps are laid upon each other or told apart by a code, never both; and which of them is told."""
        told = compared(m, n)
        self.assertEqual(told[0] == "alike", alike_by_pieces(m, n), (m, n))
        self.assertEqual(told[0] == "alike", codes(m) == codes(n), (m, n))
        if told[0] == "alike":
            self.assertTrue(is_laying(m, n, told[1]), (m, n))
            self.assertEqual(compared(n, m)[0], "alike")
        else:
            ones, others = ([least_by_list(piece)[0] for piece in pieces_by_names(each)] for each in (m, n))
            differing = [code for code in ones + others if ones.count(code) != others.count(code)]
            code = min(differing)
            self.assertEqual(told, ("unlike", code, ones.count(code), others.count(code)))
            self.assertEqual(compared(n, m), ("unlike", code, others.count(code), ones.count(code)))
        return told[0]

    def test_every_map_of_at_most_three_roads(self):
        for roads, bare in ((0, 0), (0, 1), (0, 4), (1, 0), (1, 2), (2, 0), (2, 3), (3, 0), (3, 1)):
            for m in all_maps(roads, bare):
                self.holds(m)

    def test_maps_told_by_rows(self):
        for m in all_maps(2, 1):
            rows = shown(m)
            self.holds(read(rows[::-1]))

    def test_every_map_along_chains_of_changes(self):
        for seed in range(100, 120):
            m, changes = chain(seed, 60)
            for change in changes:
                told = change.done(fresh(m))
                self.assertEqual(told, changed_by_steps(change, m))
                self.holds(told)
                self.assertEqual(mirror(mirror(told)), told)
                self.assertEqual(change.back(m).done(told), m)
                self.assertEqual(change.other().done(lands(m)), lands(told))
                m = told

    def test_along_the_same_chains_many_changes_are_refused_alike(self):
        refused = 0
        for seed in range(100, 110):
            m, changes = chain(seed, 40)
            later = changes[::-1]
            for change, odd in zip(changes, later):
                told = answer(odd.done, m)
                self.assertEqual(told, changed_by_steps(odd, m))
                if is_refusal(told):
                    refused += 1
                    self.assertEqual(answer(odd.back, m), told)
                    self.assertEqual(answer(odd.other().done, lands(m)), told)
                m = change.done(m)
        self.assertGreater(refused, 50)

    def test_small_maps_are_laid_upon_each_other_or_told_apart(self):
        maps = list(small_maps())[::3]
        found = [self.laid_or_told_apart(m, n) for m, n in itertools.product(maps, maps)]
        self.assertEqual(set(found), {"alike", "unlike"})

    def test_maps_along_chains_are_laid_upon_each_other_or_told_apart(self):
        found = []
        for seed in range(120, 126):
            m, changes = chain(seed, 40)
            for number, change in enumerate(changes):
                told = change.done(m)
                for n in (m, lands(told), mirror_by_steps(told), shuffled(told, number)):
                    found.append(self.laid_or_told_apart(told, n))
                self.assertEqual(found[-1], "alike")
                m = told
        self.assertGreater(found.count("unlike"), 100)
        self.assertGreater(found.count("alike"), 240)

    def test_maps_behind_long_chains(self):
        maps = [done_all(*chain(seed, 70)) for seed in range(130, 140)]
        maps += [shuffled(m, 1) for m in maps]
        found = [self.laid_or_told_apart(m, n) for m, n in itertools.combinations(maps, 2)]
        self.assertGreaterEqual(found.count("alike"), 10)
        for m in maps:
            self.holds(m)


if __name__ == "__main__":
    unittest.main()
