"""What is handed in stays, what is given is the asker's own, and is told alike again: point 2."""

import copy
import inspect
import unittest

from mapround import texts, turns
from mapround.errors import MapError

MAP = [[], [], [-4, 4, -1], [-3, 1, 2], [-2], [3]]
BARE = [[], []]

# For each function of the interface: its arguments' names, and things to ask it with.
ASKED = {
    turns.turned: (["ends"], [[[]], [[4]], [[-9, 2, 3]], [[2, 3, -9]]]),
    turns.map_of: (["turns"], [[[]], [BARE], [MAP], [[[1, -1], [], [3, 2], [-2, -3]]],
                               [[[1, 0]]], [[[1, 1]]], [[[1], [2]]], [[[]] * 129]]),
    turns.is_map: (["turns"], [[[]], [BARE], [MAP], [[[1, -1], []]], [[[1, 0]]], [[[1]]]]),
    turns.ends_of: (["m"], [[[]], [BARE], [MAP]]),
    turns.roads_of: (["m"], [[[]], [BARE], [MAP]]),
    turns.places_at: (["m"], [[[]], [BARE], [MAP]]),
    turns.nexts: (["m"], [[[]], [BARE], [MAP]]),
    turns.after: (["m", "end"], [[MAP, 1], [MAP, 2], [MAP, 3], [MAP, 0], [[], 1]]),
    turns.before: (["m", "end"], [[MAP, 1], [MAP, -3], [MAP, 3], [MAP, 0], [[], 1]]),
    texts.shown: (["m"], [[[]], [BARE], [MAP]]),
    texts.read: (["rows"], [[[]], [["."]], [["1 2 -1", ".", "-2"]], [["1", ""]], [["1 1"]], [["1"]]]),
}


def answer(function, things):
    """What is given, or the refusal's class with its fields."""
    try:
        return function(*things)
    except MapError as error:
        return (type(error).__name__, vars(error))


def spoil(thing):
    """Change a list or dict and all lists and dicts in it."""
    if isinstance(thing, dict):
        for key in thing:
            thing[key] = "spoilt"
        thing["spoilt"] = "spoilt"
    elif isinstance(thing, (list, tuple)):
        for part in thing:
            spoil(part)
        if isinstance(thing, list):
            thing.reverse()
            thing.append("spoilt")


def cases():
    for function, (_, all_things) in ASKED.items():
        for things in all_things:
            yield function, things


class OwnAndSameTest(unittest.TestCase):

    def test_what_is_handed_in_stays(self):
        for function, things in cases():
            with self.subTest(function=function.__name__, things=things):
                handed = copy.deepcopy(things)
                answer(function, handed)
                self.assertEqual(handed, things)

    def test_what_is_given_is_the_askers_own(self):
        for function, things in cases():
            with self.subTest(function=function.__name__, things=things):
                handed = copy.deepcopy(things)
                first = answer(function, handed)
                expected = copy.deepcopy(first)
                spoil(first)
                self.assertEqual(handed, things)
                self.assertEqual(answer(function, handed), expected)

    def test_what_is_handed_in_may_be_changed_afterwards(self):
        for function, things in cases():
            with self.subTest(function=function.__name__, things=things):
                handed = copy.deepcopy(things)
                given = answer(function, handed)
                expected = copy.deepcopy(given)
                spoil(handed)
                self.assertEqual(given, expected)
                self.assertEqual(answer(function, copy.deepcopy(things)), expected)

    def test_told_alike_whatever_was_asked_between(self):
        first = [answer(function, copy.deepcopy(things)) for function, things in cases()]
        expected = copy.deepcopy(first)
        again = [answer(function, copy.deepcopy(things)) for function, things in reversed(list(cases()))]
        self.assertEqual(again[::-1], expected)
        self.assertEqual(first, expected)

    def test_places_told_by_one_list_become_places_of_their_own(self):
        bare = []
        m = turns.map_of([bare, bare])
        m[0].append("spoilt")
        self.assertEqual((m[1], bare), ([], []))

    def test_names_of_the_arguments(self):
        for function, (names, _) in ASKED.items():
            with self.subTest(function=function.__name__):
                self.assertEqual(list(inspect.signature(function).parameters), names)

    def test_kinds_of_what_is_given(self):
        for function, things in cases():
            with self.subTest(function=function.__name__, things=things):
                given = answer(function, copy.deepcopy(things))
                if isinstance(given, tuple):
                    continue
                kind = {"is_map": bool, "places_at": dict, "nexts": dict, "after": int, "before": int}
                self.assertIs(type(given), kind.get(function.__name__, list))


if __name__ == "__main__":
    unittest.main()
