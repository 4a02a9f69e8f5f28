"""What is handed in stays, what is given is the asker's own, and is told alike again: point 2.

A desk is asked the same in test_desk.py.
"""

import copy
import inspect
import unittest

from made import is_refusal, refusal
from mapround import (
    changes, codes, colours, doors, lands, likeness, pieces, sheets, texts, trees, turns, walks,
)
from mapround.changes import Change, Cut, Draw, Found, Part, Put, Raze
from mapround.errors import MapError

MAP = [[], [], [-4, 4, -1], [-3, 1, 2], [-2], [3]]
PIECE = MAP[2:]
OVER = [[], [], [-8, -1, 8], [-3, 2, 1], [-2], [3]]
HANDLED = [[], [-6, 5, 6, -5], [-4, 3, 4, -3, 2], [-2, 1], [-1]]
BARE = [[], []]
FULL = [[]] * 128 + [[-1, 1]]
RING = [[-3, 1], [-2, 3], [-1, 2]]
FIVE = [[-9, -8, -7, -6, -5], [-1, 9], [1, 7], [5], [6], [8]]
SHEET = ["= =======", "  | | |  ", "  | | ===", "  L-J    "]
NONE = type(None)
STEPS = [Put(5, None, 3), Cut(1), Draw(4), Part(6, 2, 5), Found(), Raze()]

# For each function of the interface: its arguments' names, the kind that is given (or a tuple of such kinds),
# and things to ask it with.
ASKED = {
    turns.turned: (["ends"], list, [[[]], [[4]], [[-9, 2, 3]], [[2, 3, -9]]]),
    turns.map_of: (["turns"], list, [[[]], [BARE], [MAP], [[[1, -1], [], [3, 2], [-2, -3]]],
                                     [[[1, 0]]], [[[1, 1]]], [[[1], [2]]], [[[]] * 129]]),
    turns.is_map: (["turns"], bool, [[[]], [BARE], [MAP], [[[1, -1], []]], [[[1, 0]]], [[[1]]]]),
    turns.ends_of: (["m"], list, [[[]], [BARE], [MAP]]),
    turns.roads_of: (["m"], list, [[[]], [BARE], [MAP]]),
    turns.places_at: (["m"], dict, [[[]], [BARE], [MAP]]),
    turns.nexts: (["m"], dict, [[[]], [BARE], [MAP]]),
    turns.after: (["m", "end"], int, [[MAP, 1], [MAP, 2], [MAP, 3], [MAP, 0], [[], 1]]),
    turns.before: (["m", "end"], int, [[MAP, 1], [MAP, -3], [MAP, 3], [MAP, 0], [[], 1]]),
    texts.shown: (["m"], list, [[[]], [BARE], [MAP]]),
    texts.read: (["rows"], list, [[[]], [["."]], [["1 2 -1", ".", "-2"]], [["1", ""]], [["1 1"]], [["1"]]]),
    pieces.pieces: (["m"], list, [[[]], [BARE], [MAP]]),
    pieces.joined: (["maps"], list, [[[]], [[[]]], [[MAP]], [[BARE, MAP, []]], [[MAP, MAP]], [[FULL, BARE]]]),
    lands.onward: (["m", "end"], int, [[MAP, 1], [MAP, 4], [MAP, 0], [[], 1]]),
    lands.land_of: (["m", "end"], list, [[MAP, 1], [MAP, 4], [MAP, 0], [[], 1]]),
    lands.lands: (["m"], list, [[[]], [BARE], [MAP]]),
    lands.handles: (["m"], int, [[[]], [BARE], [MAP], [[[-2, 1, 2, -1]]]]),
    lands.counts: (["m"], tuple, [[[]], [BARE], [MAP], [[[-2, 1, 2, -1]]]]),
    lands.mirror: (["m"], list, [[[]], [BARE], [MAP]]),
    codes.round_ends: (["m", "end"], list, [[MAP, 1], [MAP, 4], [MAP, 0], [[], 1]]),
    codes.round_code: (["m", "end"], tuple, [[MAP, 1], [MAP, 4], [MAP, 0], [[], 1]]),
    codes.least_code: (["m"], tuple, [[[]], [[[]]], [BARE], [MAP], [PIECE], [[[-2, 1, 2, -1]]]]),
    codes.codes: (["m"], list, [[[]], [BARE], [MAP], [HANDLED]]),
    likeness.compared: (["m", "n"], tuple, [[[], []], [BARE, BARE], [MAP, MAP], [MAP, OVER], [OVER, MAP], [MAP, PIECE],
                                            [[], MAP], [HANDLED, HANDLED], [HANDLED, MAP]]),
    likeness.own_turns: (["m"], list, [[[]], [[[]]], [BARE], [MAP], [PIECE], [[[-2, 1, 2, -1]]], [[[-1], [1]]]]),
    doors.bridges: (["m"], list, [[[]], [BARE], [MAP], [HANDLED], [FULL]]),
    doors.groups: (["m", "place"], list, [[MAP, 0], [MAP, 2], [MAP, 3], [MAP, 4], [HANDLED, 2], [FULL, 128]]),
    doors.doors: (["m"], list, [[[]], [BARE], [MAP], [HANDLED], [FULL]]),
    doors.fallen: (["m", "place"], list, [[MAP, 0], [MAP, 2], [MAP, 3], [MAP, 4], [HANDLED, 2], [FULL, 128]]),
    walks.walk: (["m"], list, [[[]], [[[]]], [BARE], [MAP], [PIECE], [[[-2, 1, 2, -1]]]]),
    walks.crossing: (["m"], (NONE, tuple), [[[]], [BARE], [MAP], [PIECE], [HANDLED], [FULL]]),
    sheets.drawing: (["m"], list, [[[]], [BARE], [MAP], [RING], [HANDLED], [FULL]]),
    sheets.seen: (["rows"], list, [[[]], [["= ="]], [["===", "L-J"]], [["===", "|  ", "==="]], [SHEET]]),
    colours.neighbours: (["m"], list, [[[]], [BARE], [MAP], [RING], [HANDLED], [FULL]]),
    colours.chain: (["m", "colours", "place", "a", "b"], list, [
        [RING, [0, 1, 2], 0, 0, 2], [RING, [0, None, None], 0, 1, 0], [FIVE, [None, 4, 3, 2, 1, 0], 1, 4, 3],
        [MAP, [0, 0, 1, 0, 1, 1], 2, 1, 0]]),
    colours.coloured: (["m"], tuple, [[[]], [BARE], [MAP], [RING], [FIVE], [HANDLED], [FULL]]),
    colours.lands_coloured: (["m"], list, [[[]], [BARE], [MAP], [RING], [FIVE], [HANDLED], [FULL]]),
    trees.tried: (["m", "many"], tuple, [
        [[], 0], [[], 8], [BARE, 0], [BARE, 1], [MAP, 1], [MAP, 8], [RING, 2], [RING, 3], [HANDLED, 1], [HANDLED, 2],
        [FIVE, 2], [FULL, 3]]),
    trees.least: (["m"], tuple, [[[]], [BARE], [MAP], [RING], [HANDLED], [FIVE], [FULL]]),
    changes.done_all: (["m", "changes"], list, [[[], []], [MAP, []], [MAP, STEPS], [MAP, STEPS + [Cut(9)]]]),
    changes.back_all: (["m", "changes"], list, [[[], []], [MAP, []], [MAP, STEPS], [MAP, STEPS + [Cut(9)]]]),
}

PUTS = [(5, 1, -2), (5, 2, 5), (5, None, None), (5, None, 3), (1, 1, 1), (5, 9, 1), (5, 1, 9)]
ROADS = [(1,), (2,), (4,), (9,)]
MADE_OF = {Put: PUTS, Part: PUTS, Cut: ROADS, Draw: ROADS, Found: [()], Raze: [()]}
BACK = {Put: Cut, Cut: Put, Part: Draw, Draw: Part, Found: Raze, Raze: Found}
OTHER = {Put: Part, Part: Put, Cut: Draw, Draw: Cut, Found: Found, Raze: Raze}


def ask_methods_too():
    """Methods are asked like functions, with their change handed in first."""
    for kind, all_fields in MADE_OF.items():
        alone = [[kind(*fields)] for fields in all_fields]
        with_maps = [[kind(*fields), m] for fields in all_fields for m in (MAP, FULL, [])]
        ASKED[kind.done] = (["self", "m"], list, with_maps)
        ASKED[kind.back] = (["self", "m"], BACK[kind], with_maps)
        ASKED[kind.other] = (["self"], OTHER[kind], alone)
        ASKED[kind.told] = (["self"], tuple, alone)


ask_methods_too()


def answer(function, things):
    """What is given, or the refusal's class with its fields."""
    try:
        return function(*things)
    except MapError as error:
        return refusal(type(error).__name__, **vars(error))


def plain(thing):
    """A copy in which each change is told by its class and its fields."""
    if isinstance(thing, Change):
        return ("change", type(thing).__name__, dict(vars(thing)))
    if isinstance(thing, dict):
        return {key: plain(part) for key, part in thing.items()}
    if isinstance(thing, (list, tuple)):
        return type(thing)([plain(part) for part in thing])
    return thing


def spoil(thing):
    """Change a list, a dict or a change, and all of these in it."""
    if isinstance(thing, Change):
        spoil(vars(thing))
    elif isinstance(thing, dict):
        for key in thing:
            thing[key] = "spoilt"
        thing["spoilt"] = "spoilt"
    elif isinstance(thing, (list, tuple)):
        for part in thing:
            spoil(part)
        if isinstance(thing, list):
            thing.reverse()
            thing.append("spoilt")


def parts_of(thing):
    """The thing, if it can be changed, and all such things in it."""
    if isinstance(thing, (list, dict, Change)):
        yield thing
    if isinstance(thing, (list, tuple)):
        for part in thing:
            yield from parts_of(part)


def cases():
    for function, (_, _, all_things) in ASKED.items():
        for things in all_things:
            yield function, things


class OwnAndSameTest(unittest.TestCase):

    def test_what_is_handed_in_stays(self):
        for function, things in cases():
            with self.subTest(function=function.__qualname__, things=plain(things)):
                handed = copy.deepcopy(things)
                answer(function, handed)
                self.assertEqual(plain(handed), plain(things))

    def test_what_is_given_is_the_askers_own(self):
        for function, things in cases():
            with self.subTest(function=function.__qualname__, things=plain(things)):
                handed = copy.deepcopy(things)
                first = answer(function, handed)
                expected = plain(first)
                spoil(first)
                self.assertEqual(plain(handed), plain(things))
                self.assertEqual(plain(answer(function, handed)), expected)

    def test_nothing_that_is_given_is_a_thing_handed_in_or_given_twice(self):
        for function, things in cases():
            with self.subTest(function=function.__qualname__, things=plain(things)):
                handed = copy.deepcopy(things)
                first = answer(function, handed)
                second = answer(function, handed)
                found = list(parts_of(first)) + list(parts_of(second))
                known = [id(part) for part in parts_of(handed)] + [id(part) for part in found]
                for part in found:
                    self.assertEqual(known.count(id(part)), 1)

    def test_what_is_handed_in_may_be_changed_afterwards(self):
        for function, things in cases():
            with self.subTest(function=function.__qualname__, things=plain(things)):
                handed = copy.deepcopy(things)
                given = answer(function, handed)
                expected = plain(given)
                spoil(handed)
                self.assertEqual(plain(given), expected)
                self.assertEqual(plain(answer(function, copy.deepcopy(things))), expected)

    def test_told_alike_whatever_was_asked_between(self):
        first = [answer(function, copy.deepcopy(things)) for function, things in cases()]
        expected = plain(first)
        again = [answer(function, copy.deepcopy(things)) for function, things in reversed(list(cases()))]
        self.assertEqual(plain(again[::-1]), expected)
        self.assertEqual(plain(first), expected)
        self.assertEqual(again[::-1], first)

    def test_one_change_is_asked_many_things(self):
        for kind, all_fields in MADE_OF.items():
            for fields in all_fields:
                change = kind(*fields)
                with self.subTest(change=change.told()):
                    expected = plain(change)
                    for m in (MAP, FULL, [], MAP):
                        answer(change.done, [m])
                        answer(change.back, [m])
                        spoil(change.other())
                        self.assertEqual(plain(change), expected)
                    self.assertEqual(plain(answer(change.done, [MAP])), plain(answer(kind(*fields).done, [MAP])))

    def test_places_told_by_one_list_become_places_of_their_own(self):
        place = []
        for function, things in (
            (turns.map_of, [[place, place]]),
            (pieces.joined, [[[place], [place]]]),
            (lands.lands, [[place, place]]),
            (lands.mirror, [[place, place]]),
            (doors.fallen, [[place, place], 1]),
            (changes.done_all, [[place, place], []]),
            (Found().done, [[place]]),
            (Raze().done, [[place, place, place]]),
        ):
            with self.subTest(function=function.__qualname__):
                m = function(*things)
                m[0].append("spoilt")
                self.assertEqual((m[1], place), ([], []))

    def test_names_of_the_arguments(self):
        for function, (names, _, _) in ASKED.items():
            with self.subTest(function=function.__qualname__):
                self.assertEqual(list(inspect.signature(function).parameters), names)

    def test_kinds_of_what_is_given(self):
        for function, things in cases():
            with self.subTest(function=function.__qualname__, things=plain(things)):
                handed = copy.deepcopy(things)
                given = answer(function, handed)
                kinds = ASKED[function][1]
                if not is_refusal(given):
                    self.assertIn(type(given), kinds if isinstance(kinds, tuple) else (kinds,))

    def test_each_function_is_asked_what_is_not_refused(self):
        for function, (_, _, all_things) in ASKED.items():
            with self.subTest(function=function.__qualname__):
                given = [answer(function, copy.deepcopy(things)) for things in all_things]
                self.assertFalse(all(is_refusal(one) for one in given))


if __name__ == "__main__":
    unittest.main()
