"""The whole: what holds for every map that is told, after any number of changes: point 3."""

import itertools
import unittest

from made import (
    alike_by_pieces, all_maps, answer, chain, changed_by_steps, clashes, colours_along, crossing_by_spots, do_cross,
    first_by_lists, flat_maps, fresh, is_laying, is_refusal, least_by_list, line_of, mirror_by_steps,
    neighbours_by_roads, opened_and_closed, other_by_steps, pieces_by_names, refusal, shows_that_none_does, shuffled,
    small_maps, told_by_columns, walk_by_steps,
)
from mapround.changes import done_all
from mapround.codes import codes
from mapround.colours import coloured, lands_coloured
from mapround.desk import Desk
from mapround.lands import counts, handles, lands, mirror
from mapround.likeness import compared
from mapround.pieces import joined, pieces
from mapround.sheets import drawing, seen
from mapround.texts import read, shown
from mapround.trees import least
from mapround.turns import is_map
from mapround.walks import crossing


class WholeTest(unittest.TestCase):

    def holds(self, m):
        """The sum and the other map's other map, with all numbers reckoned here once more."""
        self.assertTrue(is_map(m), m)
        over = lands(m)
        self.assertTrue(is_map(over), m)
        self.assertEqual(over, other_by_steps(m))
        self.assertEqual(lands(over), m)
        twice = 2 * len(pieces_by_names(m)) - len(m) + sum(len(turn) for turn in m) // 2 - len(over)
        self.assertEqual(twice % 2, 0, m)
        self.assertGreaterEqual(twice, 0, m)
        roads = sum(len(turn) for turn in m) // 2
        self.assertEqual(counts(m), (len(m), roads, len(over), len(pieces_by_names(m)), twice // 2))
        self.assertEqual(handles(m), twice // 2)
        self.assertEqual(joined(pieces(m)), m)
        found = [crossing_by_spots(walk_by_steps(piece)) for piece in pieces_by_names(m)]
        self.assertEqual(any(found), twice > 0, m)
        if twice == 0:
            self.assertIsNone(crossing(m))
            self.drawn_and_coloured(m)
        else:
            self.crossed(m)
        if len(m) <= 8:
            self.coloured_with_the_fewest(m)

    def drawn_and_coloured(self, m):
        """A map without handles is drawn, its roads followed from cell to cell, and gets five colours or fewer."""
        rows = drawing(m)
        self.assertEqual(told_by_columns(m, rows), m)
        self.assertEqual(compared(m, seen(rows))[0], "alike")
        told, log = coloured(m)
        near = neighbours_by_roads(m)
        along = list(colours_along(m, log))
        for step, colours in zip(log, along):
            self.assertEqual(clashes(near, colours), [], (m, step))
        self.assertEqual(along[-1] if along else [], told)
        self.assertLessEqual(set(told), set(range(5)))
        self.assertEqual(clashes(neighbours_by_roads(other_by_steps(m)), lands_coloured(m)), [])

    def crossed(self, m):
        """Of a map with handles two roads that cross are told, whoever asks for a drawing or colours."""
        one, two = crossing(m)
        at = [opened_and_closed(walk_by_steps(piece)) for piece in pieces_by_names(m)]
        self.assertTrue(any(one in spots and two in spots and do_cross(spots, one, two) for spots in at), m)
        for function in (drawing, coloured):
            self.assertEqual(answer(function, m), refusal("Crossed", one=one, two=two))

    def coloured_with_the_fewest(self, m):
        """A small map gets the least number of colours, with a whole tree that shows that no fewer do."""
        many, colours, tree = least(m)
        near = neighbours_by_roads(m)
        self.assertEqual((clashes(near, colours), len(set(colours))), ([], many), m)
        self.assertEqual(colours, first_by_lists(near, many))
        if m:
            self.assertTrue(shows_that_none_does(near, many - 1, tree), m)

    def laid_or_told_apart(self, m, n):
        """Two maps are laid upon each other or told apart by a code, never both; and which of them is told."""
        told = compared(m, n)
        self.assertEqual(told[0] == "alike", alike_by_pieces(m, n), (m, n))
        self.assertEqual(told[0] == "alike", codes(m) == codes(n), (m, n))
        if told[0] == "alike":
            self.assertTrue(is_laying(m, n, told[1]), (m, n))
            self.assertEqual(compared(n, m)[0], "alike")
        else:
            ones, others = ([least_by_list(piece)[0] for piece in pieces_by_names(each)] for each in (m, n))
            differing = [code for code in ones + others if ones.count(code) != others.count(code)]
            code = min(differing)
            self.assertEqual(told, ("unlike", code, ones.count(code), others.count(code)))
            self.assertEqual(compared(n, m), ("unlike", code, others.count(code), ones.count(code)))
        return told[0]

    def test_every_map_of_at_most_three_roads(self):
        for roads, bare in ((0, 0), (0, 1), (0, 4), (1, 0), (1, 2), (2, 0), (2, 3), (3, 0), (3, 1)):
            for m in all_maps(roads, bare):
                self.holds(m)

    def test_maps_told_by_rows(self):
        for m in all_maps(2, 1):
            rows = shown(m)
            self.holds(read(rows[::-1]))

    def test_maps_without_handles(self):
        for m in flat_maps():
            self.holds(m)

    def test_maps_made_by_lines_of_a_desk(self):
        for seed in range(140, 145):
            m, changes = chain(seed, 40)
            desk = Desk(shown(m))
            for change in changes:
                desk.asked(line_of(change))
                self.holds(desk.lying())
            self.assertEqual(desk.lying(), done_all(m, changes))

    def test_every_map_along_chains_of_changes(self):
        for seed in range(100, 120):
            m, changes = chain(seed, 60)
            for change in changes:
                told = change.done(fresh(m))
                self.assertEqual(told, changed_by_steps(change, m))
                self.holds(told)
                self.assertEqual(mirror(mirror(told)), told)
                self.assertEqual(change.back(m).done(told), m)
                self.assertEqual(change.other().done(lands(m)), lands(told))
                m = told

    def test_along_the_same_chains_many_changes_are_refused_alike(self):
        refused = 0
        for seed in range(100, 110):
            m, changes = chain(seed, 40)
            later = changes[::-1]
            for change, odd in zip(changes, later):
                told = answer(odd.done, m)
                self.assertEqual(told, changed_by_steps(odd, m))
                if is_refusal(told):
                    refused += 1
                    self.assertEqual(answer(odd.back, m), told)
                    self.assertEqual(answer(odd.other().done, lands(m)), told)
                m = change.done(m)
        self.assertGreater(refused, 50)

    def test_small_maps_are_laid_upon_each_other_or_told_apart(self):
        maps = list(small_maps())[::3]
        found = [self.laid_or_told_apart(m, n) for m, n in itertools.product(maps, maps)]
        self.assertEqual(set(found), {"alike", "unlike"})

    def test_maps_along_chains_are_laid_upon_each_other_or_told_apart(self):
        found = []
        for seed in range(120, 126):
            m, changes = chain(seed, 40)
            for number, change in enumerate(changes):
                told = change.done(m)
                for n in (m, lands(told), mirror_by_steps(told), shuffled(told, number)):
                    found.append(self.laid_or_told_apart(told, n))
                self.assertEqual(found[-1], "alike")
                m = told
        self.assertGreater(found.count("unlike"), 100)
        self.assertGreater(found.count("alike"), 240)

    def test_maps_behind_long_chains(self):
        maps = [done_all(*chain(seed, 70)) for seed in range(130, 140)]
        maps += [shuffled(m, 1) for m in maps]
        found = [self.laid_or_told_apart(m, n) for m, n in itertools.combinations(maps, 2)]
        self.assertGreaterEqual(found.count("alike"), 10)
        for m in maps:
            self.holds(m)


if __name__ == "__main__":
    unittest.main()
