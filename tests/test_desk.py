"""The desk: lines with changes, lines that only ask, lines that are refused: points 48, 49, 50, and point 2."""

import inspect
import random
import unittest

from made import (
    MapsInARow, answer, bridges_by_pieces, chain_end, changed_by_steps, coloured_by_words, crossing_by_spots,
    drawing_by_cells, ends_in, groups_by_roads, handle_count, is_refusal, line_of, lone_roads, looped_roads,
    other_by_steps, piece_count, pieces_by_names, prism, refusal, ring, shuffled, some_change, star, walk_by_steps,
    way,
)
from mapround.changes import Cut, Draw, Found, Part, Put, Raze
from mapround.desk import Desk

ROWS = ["1 2", ".", "-1 -2"]
MAP = [[], [-2, -1], [1, 2]]
WITH_HANDLE = [".", "-2 1 2 -1"]
SIXTY = "9" * 60

BAD_LINES = [
    # Blanks where none are to be, or none at all.
    "", " ", "  ", "map ", " map", " map ", "cut  1", " cut 1", "cut 1 ", "put 5  1 2", "put 5 1  2", "put 5 1 2 ",
    "undo ", " undo", "redo ", " over", "found ", " raze", "sheet ", "cut ", "put 5 1 ", "put  1 2",
    # Other signs for a blank.
    "cut\t1", "cut\n1", "map\n", "\nmap", "cut 1\n", "\tundo", "cut\u00a01", "counts\r", "cut 1\u2003",
    # Words that are unknown, or written otherwise.
    "go", "Map", "MAP", "maps", "ma", "m", ".", "1", "-1", "None", "cuts 1", "Cut 1", "CUT 1", "puts 5 1 2", "Undo",
    "undone", "turn 1", "lay 1 2", "land", "count", "bridge", "door", "drawing", "colour", "colors", "lying", "back",
    "cut,1", "put(5,1,2)", "foo bar baz", "1 cut", "1 put 2 3",
    # Too few words, and too many.
    "cut", "draw", "put", "part", "put 5", "put 5 1", "part 5", "part 5 1", "cut 1 2", "draw 1 2", "put 5 1 2 3",
    "part 5 1 2 3", "put 5 . . .", "found 1", "raze 1", "found .", "raze .", "undo 1", "redo 1", "undo undo",
    "over over", "over 1", "map map", "map 1", "lands 1", "counts .", "bridges 1", "doors 1", "sheet 1", "colours 5",
    "cut 1 cut 2", "cut 1 .", "draw 1 1 2", "cut 1 1 2", "put 1", "part 1",
    # Numbers that are not written as they are to be.
    "cut 0", "cut 01", "cut +1", "cut -0", "cut 1.0", "cut 1e1", "cut 1_0", "cut one", "cut 0x1", "cut \u0661",
    "cut \u00b2", "cut --1", "cut 1-", "cut -", "draw 0", "draw 01", "draw +1", "put 0 1 2", "put 05 1 2", "put 5 0 2",
    "put 5 1 0", "put 5 01 2", "put 5 1 02", "put 5 +1 2", "put 5 1 +2", "put 5 - 2", "put 5 1 -", "put 5 -01 2",
    "put 5 None 2", "put 5 .. 2", "put 5 1 ..", "put 5 -. 2", "put five 1 2", "part 0 1 2", "part 5 0 2", "part 5 1 0",
    "part 5 -0 2", "part 5 1 x", "part 5 1 1.", "put 5 \u0661 2",
    # A road that is no end above 0.
    "cut .", "draw .", "put . 1 2", "part . 1 2", "put . . .", "cut -1", "draw -1", "put -5 1 2", "part -5 1 2",
    # More than sixty figures.
    "cut 1" + "0" * 60, "draw 1" + "0" * 60, "put 1" + "0" * 60 + " 1 2", "put 5 1" + "0" * 60 + " 2",
    "put 5 1 1" + "0" * 60, "put 5 -1" + "0" * 60 + " 2", "part 5 1 -1" + "0" * 60, "part 1" + "0" * 60 + " . .",
    "cut " + "1" * 5000, "put 5 1 -" + "1" * 5000,
]


def rows_of(m):
    return [" ".join(str(end) for end in turn) or "." for turn in m]


def desk_with(m, *lines):
    """A desk on which the map lay, of which these lines were asked."""
    desk = Desk(rows_of(m))
    for line in lines:
        desk.asked(line)
    return desk


def asks_of(m):
    """For each line that only asks what is to be told of the map."""
    texts = {
        "map": rows_of(m),
        "lands": rows_of(other_by_steps(m)),
        "bridges": [" ".join(str(road) for road in bridges_by_pieces(m))],
        "doors": [" ".join(str(place) for place in range(len(m)) if len(groups_by_roads(m, place)) > 1)],
    }
    numbers = (len(m), len(ends_in(m)) // 2, len(other_by_steps(m)), piece_count(m), handle_count(m))
    texts["counts"] = [" ".join(str(number) for number in numbers)]
    if handle_count(m):
        found = [crossing_by_spots(walk_by_steps(piece)) for piece in pieces_by_names(m)]
        one, two = [told for told in found if told][0]
        texts["sheet"] = texts["colours"] = refusal("Crossed", one=one, two=two)
    else:
        texts["sheet"] = drawing_by_cells(m)
        texts["colours"] = [" ".join(str(colour) for colour in coloured_by_words(m)[0])]
    return texts


class MadeTest(unittest.TestCase):

    def test_the_map_that_the_rows_tell_lies_there(self):
        self.assertEqual(Desk(ROWS).lying(), MAP)
        self.assertEqual(Desk([]).lying(), [])
        self.assertEqual(Desk(["."] * 128).lying(), [[]] * 128)
        self.assertEqual(Desk([SIXTY + " -" + SIXTY]).lying(), [[-int(SIXTY), int(SIXTY)]])

    def test_no_desk_is_made_of_rows_that_tell_no_map(self):
        for rows, told in (
            (["1 -1", ""], refusal("BadRow", row=1)),
            (["1 0"], refusal("BadRow", row=0)),
            ([".", "1  -1"], refusal("BadRow", row=1)),
            ([".", ".", "1" + "0" * 60 + " -1" + "0" * 60], refusal("BadRow", row=2)),
            (["1 -1", "1"], refusal("Twice", end=1)),
            (["1 -1", "2 3 -2"], refusal("Lone", end=3)),
            (["."] * 129, refusal("TooMany")),
            (rows_of(lone_roads(1, 65)), refusal("TooMany")),
        ):
            with self.subTest(rows=rows[:3]):
                self.assertEqual(answer(Desk, rows), told)

    def test_names_of_the_arguments(self):
        self.assertEqual(list(inspect.signature(Desk).parameters), ["rows"])
        self.assertEqual(list(inspect.signature(Desk.lying).parameters), ["self"])
        self.assertEqual(list(inspect.signature(Desk.asked).parameters), ["self", "line"])


class ChangesTest(unittest.TestCase):

    def told(self, rows, line, expected):
        """A line tells the rows of the map that lies there then."""
        desk = Desk(rows)
        self.assertEqual(desk.asked(line), expected)
        self.assertEqual(rows_of(desk.lying()), expected)

    def test_put(self):
        self.told(ROWS, "put 5 1 .", ["-5", "-2 -1", "1 5 2"])
        self.told(ROWS, "put 5 . 1", ["-5 2 1", "-2 -1", "5"])
        self.told(ROWS, "put 5 -1 2", [".", "-5 1 2", "-2 -1 5"])
        self.told(ROWS, "put 5 1 -2", [".", "-5 -1 -2", "1 5 2"])
        self.told(ROWS, "put 5 1 5", [".", "-5 2 1 5", "-2 -1"])
        self.told([".", "."], "put 7 . .", ["-7", "7"])
        self.told(["."], "put 7 . 7", ["-7 7"])
        self.told(["."], f"put {SIXTY} . {SIXTY}", [f"-{SIXTY} {SIXTY}"])

    def test_cut(self):
        self.told(ROWS, "cut 1", [".", "-2", "2"])
        self.told(["-1", "1"], "cut 1", [".", "."])

    def test_part(self):
        # The other map of one place is one place; there the road is put in, and closes a land.
        self.told(["."], "part 1 . 1", ["-1", "1"])
        self.told([".", "."], "part 1 . .", ["-1 1"])
        self.told(["-1 1"], "part 5 1 5", rows_of(changed_by_steps(Part(5, 1, 5), [[-1, 1]])))
        self.told(ROWS, "part 5 1 -2", rows_of(changed_by_steps(Part(5, 1, -2), MAP)))
        self.told(ROWS, "part 5 -1 .", rows_of(changed_by_steps(Part(5, -1, None), MAP)))

    def test_draw(self):
        self.told(["-1", "1"], "draw 1", ["."])
        self.told(["-1 1"], "draw 1", [".", "."])
        self.told(ROWS, "draw 1", [".", "-2 2"])

    def test_found_and_raze(self):
        self.told([], "found", ["."])
        self.told(ROWS, "found", [".", ".", "-2 -1", "1 2"])
        self.told(ROWS, "raze", ["-2 -1", "1 2"])
        self.told(["."], "raze", [])

    def test_each_change_by_its_line(self):
        for m in (MAP, [[], [], [-4, 4, -1], [-3, 1, 2], [-2], [3]], [[], [-2, 1, 2, -1]]):
            spots = [None, 9, 5, -5, 1, -1, 2, -2]
            changes = [kind(5, first, second) for kind in (Put, Part) for first in spots for second in spots]
            changes += [kind(road) for kind in (Cut, Draw) for road in (1, 2, 3, 9)] + [Found(), Raze(), Put(1, 1, 1)]
            for change in changes:
                with self.subTest(m=m, change=change.told()):
                    desk = Desk(rows_of(m))
                    told = changed_by_steps(change, m)
                    given = answer(desk.asked, line_of(change))
                    self.assertEqual(given, told if is_refusal(told) else rows_of(told))
                    self.assertEqual(desk.lying(), m if is_refusal(told) else told)

    def test_changes_are_done_to_the_map_that_lies_there(self):
        desk = Desk([])
        for line, rows in (
            ("found", ["."]), ("found", [".", "."]), ("put 1 . .", ["-1", "1"]), ("put 2 1 -1", ["-2 -1", "1 2"]),
            ("cut 1", ["-2", "2"]), ("draw 2", ["."]), ("raze", []),
        ):
            self.assertEqual(desk.asked(line), rows)


class UndoTest(unittest.TestCase):

    def told(self, desk, pairs):
        for line, expected in pairs:
            with self.subTest(line=line):
                self.assertEqual(answer(desk.asked, line), expected)
                if not is_refusal(expected):
                    self.assertEqual(rows_of(desk.lying()), expected)

    def test_nothing_to_undo_or_to_redo(self):
        for rows in ([], ROWS):
            self.told(Desk(rows), [("undo", refusal("NoDeed")), ("redo", refusal("NoDeed"))])
        desk = Desk(["."])
        self.told(desk, [
            ("found", [".", "."]), ("redo", refusal("NoDeed")), ("undo", ["."]), ("undo", refusal("NoDeed")),
            ("redo", [".", "."]), ("redo", refusal("NoDeed")), ("undo", ["."]), ("undo", refusal("NoDeed")),
        ])

    def test_several_changes_there_and_back(self):
        steps = [
            ("put 1 . .", ["-1", "1"]), ("put 2 1 -1", ["-2 -1", "1 2"]), ("cut 1", ["-2", "2"]), ("draw 2", ["."]),
            ("raze", []), ("found", ["."]), ("part 3 . 3", ["-3", "3"]),
        ]
        desk = Desk([".", "."])
        rows = [[".", "."]] + [told for _, told in steps]
        self.told(desk, steps)
        self.told(desk, [("undo", told) for told in rows[-2::-1]] + [("undo", refusal("NoDeed"))])
        self.told(desk, [("redo", told) for told in rows[1:]] + [("redo", refusal("NoDeed"))])
        self.told(desk, [("undo", rows[-2]), ("undo", rows[-3]), ("redo", rows[-2]), ("undo", rows[-3])])

    def test_undo_and_redo_are_not_undone_themselves(self):
        self.told(Desk([]), [
            ("found", ["."]), ("found", [".", "."]), ("undo", ["."]), ("undo", []), ("redo", ["."]), ("undo", []),
            ("undo", refusal("NoDeed")),
        ])

    def test_a_change_behind_an_undo_makes_the_undone_ones_forgotten(self):
        desk = Desk([])
        self.told(desk, [
            ("found", ["."]), ("found", [".", "."]), ("found", [".", ".", "."]), ("undo", [".", "."]), ("undo", ["."]),
            ("put 1 . 1", ["-1 1"]), ("redo", refusal("NoDeed")),
            ("undo", ["."]), ("redo", ["-1 1"]), ("undo", ["."]), ("undo", []), ("undo", refusal("NoDeed")),
            ("redo", ["."]), ("redo", ["-1 1"]), ("redo", refusal("NoDeed")),
        ])

    def test_a_change_that_is_refused_makes_none_forgotten(self):
        self.told(Desk([]), [
            ("found", ["."]), ("undo", []), ("raze", refusal("NoPlace")), ("cut 1", refusal("NotThere", end=1)),
            ("cut 0", refusal("BadLine")), ("redo", ["."]),
        ])

    def test_lines_that_only_ask_make_none_forgotten(self):
        desk = Desk(ROWS)
        desk.asked("cut 1")
        desk.asked("undo")
        for line in ("map", "lands", "counts", "bridges", "doors", "sheet", "colours", "over", "over"):
            desk.asked(line)
        self.told(desk, [("redo", [".", "-2", "2"]), ("undo", [".", "-2 -1", "1 2"]), ("undo", refusal("NoDeed"))])

    def test_undo_of_each_change_leads_back_to_the_map(self):
        for seed in range(600, 612):
            dice = random.Random(seed)
            m = chain_end(seed, 20)[1]
            for _ in range(30):
                change = some_change(dice, m)
                told = changed_by_steps(change, m)
                if not is_refusal(told):
                    desk = desk_with(m, line_of(change))
                    self.told(desk, [("undo", rows_of(m)), ("redo", rows_of(told)), ("undo", rows_of(m))])


class OverTest(unittest.TestCase):

    def told(self, desk, pairs):
        for line, expected in pairs:
            with self.subTest(line=line):
                self.assertEqual(answer(desk.asked, line), expected)

    def test_the_other_map_comes_to_lie_there(self):
        desk = Desk(["-1 1"])
        self.told(desk, [("over", ["-1", "1"])])
        self.assertEqual(desk.lying(), [[-1], [1]])
        self.told(desk, [("lands", ["-1 1"]), ("over", ["-1 1"]), ("lands", ["-1", "1"])])
        self.told(Desk([]), [("over", []), ("over", [])])
        self.told(Desk([".", "."]), [("over", [".", "."])])

    def test_it_is_no_change(self):
        desk = Desk(["-1 1"])
        self.told(desk, [
            ("over", ["-1", "1"]), ("undo", refusal("NoDeed")), ("redo", refusal("NoDeed")), ("map", ["-1", "1"]),
        ])

    def test_between_a_change_and_its_undo(self):
        self.told(Desk(["."]), [
            ("part 1 . 1", ["-1", "1"]), ("over", ["-1 1"]), ("undo", ["."]), ("redo", ["-1 1"]),
            ("over", ["-1", "1"]), ("undo", ["."]), ("undo", refusal("NoDeed")),
        ])
        # The cut becomes the draw of its road, which is led back from by a part.
        m = [[-2], [-1, 2, 1]]
        behind = changed_by_steps(Cut(1), m)
        self.told(desk_with(m, "cut 1"), [
            ("over", rows_of(other_by_steps(behind))), ("undo", rows_of(other_by_steps(m))),
            ("redo", rows_of(other_by_steps(behind))), ("over", rows_of(behind)), ("undo", rows_of(m)),
        ])

    def test_between_an_undo_and_its_redo(self):
        self.told(Desk(["."]), [
            ("put 1 . 1", ["-1 1"]), ("undo", ["."]), ("over", ["."]), ("redo", ["-1", "1"]), ("undo", ["."]),
            ("redo", ["-1", "1"]), ("redo", refusal("NoDeed")),
        ])

    def test_it_forgets_none(self):
        self.told(Desk([]), [
            ("found", ["."]), ("found", [".", "."]), ("put 1 . .", ["-1", "1"]), ("undo", [".", "."]),
            ("over", [".", "."]), ("undo", ["."]), ("over", ["."]), ("redo", [".", "."]), ("redo", ["-1", "1"]),
            ("over", ["-1 1"]), ("undo", [".", "."]), ("undo", ["."]), ("undo", []),
        ])

    def test_changes_ahead_of_it_and_behind_it(self):
        m = [[-5, 1, 2], [-4, 4, -1, 3], [-3], [-2, 5]]
        behind = changed_by_steps(Draw(5), m)
        over = other_by_steps(behind)
        further = changed_by_steps(Put(9, 1, -3), over)
        self.told(desk_with(m), [
            ("draw 5", rows_of(behind)), ("over", rows_of(over)), ("put 9 1 -3", rows_of(further)),
            ("undo", rows_of(over)), ("undo", rows_of(other_by_steps(m))), ("over", rows_of(m)),
            ("redo", rows_of(behind)), ("redo", rows_of(other_by_steps(further))), ("redo", refusal("NoDeed")),
        ])


class AskTest(unittest.TestCase):

    def told(self, rows, **texts):
        desk = Desk(rows)
        lying = desk.lying()
        for line, expected in texts.items():
            for _ in range(2):
                with self.subTest(rows=rows, line=line):
                    self.assertEqual(answer(desk.asked, line), expected)
                    self.assertEqual(desk.lying(), lying)

    def test_the_map_without_places(self):
        self.told([], map=[], lands=[], counts=["0 0 0 0 0"], bridges=[""], doors=[""], sheet=[], colours=[""])

    def test_places_without_roads(self):
        self.told([".", "."], map=[".", "."], lands=[".", "."], counts=["2 0 2 2 0"], bridges=[""], doors=[""],
                  sheet=["= ="], colours=["1 0"])

    def test_without_bridges_and_doors(self):
        self.told(ROWS, map=[".", "-2 -1", "1 2"], lands=[".", "-2 1", "-1 2"], counts=["3 2 3 2 0"], bridges=[""],
                  doors=[""], sheet=["= =======", "  |     |", "  ===== |", "    L---J"], colours=["2 1 0"])

    def test_bridges_and_doors(self):
        self.told(["-2 2 -1", "1"], map=["-2 2 -1", "1"], lands=["-2 -1 1", "2"], counts=["2 2 2 1 0"], bridges=["1"],
                  doors=["0"], sheet=["=======", "| | |  ", "| | ===", "L-J    "], colours=["1 0"])

    def test_numbers_rise_as_numbers_do(self):
        # Twelve roads one behind another: the bridges are 1 to 12, the doors all places but both ends of the way.
        m = way(12)
        ends = [place for place, turn in enumerate(m) if len(turn) == 1]
        inner = [place for place in range(13) if place not in ends]
        self.told(rows_of(m), bridges=["1 2 3 4 5 6 7 8 9 10 11 12"], doors=[" ".join(map(str, inner))])
        self.assertGreater(max(inner), 9)

    def test_a_map_with_handles(self):
        crossed = refusal("Crossed", one=2, two=1)
        self.told(WITH_HANDLE, map=[".", "-2 1 2 -1"], lands=[".", "-2 -1 2 1"], counts=["2 2 2 2 1"], bridges=[""],
                  doors=["1"], sheet=crossed, colours=crossed)

    def test_colours_behind_a_turn(self):
        self.told(["-5 -4 -3 -2 -1", "1", "2", "3", "4", "5"], colours=["0 4 3 2 1 2"])

    def test_the_map_that_lies_there_is_asked(self):
        desk = Desk(["."])
        self.assertEqual(desk.asked("counts"), ["1 0 1 1 0"])
        desk.asked("put 1 . 1")
        self.assertEqual((desk.asked("counts"), desk.asked("sheet")), (["1 1 2 1 0"], ["===", "L-J"]))
        desk.asked("over")
        self.assertEqual((desk.asked("counts"), desk.asked("sheet")), (["2 1 1 1 0"], ["===", "|  ", "==="]))
        desk.asked("undo")
        self.assertEqual((desk.asked("counts"), desk.asked("sheet")), (["1 0 1 1 0"], ["="]))

    def test_many_maps(self):
        maps = [chain_end(seed, 30)[1] for seed in range(620, 660)]
        maps += [prism(21), ring(64), shuffled(star(12), 1), [[]] * 128 + looped_roads(1, 64)]
        for m in maps:
            self.told(rows_of(m), **asks_of(m))


class RefusedTest(unittest.TestCase):

    def left_as_it_was(self, line, told):
        """A desk with changes to undo and to redo is asked, and is then asked to undo and redo all."""
        for lines in ([], ["over"]):
            desk = desk_with(MAP, "put 5 1 .", "cut 2", "found", "undo", "undo", *lines)
            other = desk_with(MAP, "put 5 1 .", "cut 2", "found", "undo", "undo", *lines)
            self.assertEqual(answer(desk.asked, line), told)
            for later in ("map", "redo", "redo", "redo", "undo", "undo", "undo", "undo", "redo", "redo"):
                self.assertEqual(desk.lying(), other.lying())
                self.assertEqual(answer(desk.asked, later), answer(other.asked, later))

    def test_bad_lines(self):
        for line in BAD_LINES:
            with self.subTest(line=line[:80]):
                self.left_as_it_was(line, refusal("BadLine"))

    def test_bad_lines_of_other_desks(self):
        for rows in ([], ["."], WITH_HANDLE):
            for line in BAD_LINES:
                desk = Desk(rows)
                before = desk.lying()
                with self.subTest(rows=rows, line=line[:80]):
                    self.assertEqual(answer(desk.asked, line), refusal("BadLine"))
                    self.assertEqual(desk.lying(), before)
                    self.assertEqual(answer(desk.asked, "undo"), refusal("NoDeed"))

    def test_changes_that_are_refused(self):
        for line, told in (
            ("put 1 1 1", refusal("Taken", road=1)),
            ("put 8 9 1", refusal("NotThere", end=9)),
            ("put 8 1 9", refusal("NotThere", end=9)),
            ("put 8 1 -8", refusal("NotThere", end=-8)),
            ("put 8 8 1", refusal("NotThere", end=8)),
            (f"put 8 1 -{SIXTY}", refusal("NotThere", end=-int(SIXTY))),
            ("put 8 . 1", refusal("NoPlace")),
            ("put 8 1 .", refusal("NoPlace")),
            ("part 1 1 1", refusal("Taken", road=1)),
            ("part 8 -9 1", refusal("NotThere", end=-9)),
            ("part 8 1 9", refusal("NotThere", end=9)),
            ("part 8 . 1", refusal("NoPlace")),
            ("cut 8", refusal("NotThere", end=8)),
            (f"cut {SIXTY}", refusal("NotThere", end=int(SIXTY))),
            ("draw 8", refusal("NotThere", end=8)),
            ("raze", refusal("NoPlace")),
        ):
            with self.subTest(line=line):
                self.left_as_it_was(line, told)

    def test_too_many(self):
        full = [[]] * 128 + lone_roads(1, 64)
        for line in ("found", "cut 1", "put 65 1 1", "put 65 . .", "part 65 1 1"):
            desk = Desk(rows_of(full))
            with self.subTest(line=line):
                self.assertEqual(answer(desk.asked, line), refusal("TooMany"))
                self.assertEqual(desk.lying(), full)
                self.assertEqual(answer(desk.asked, "undo"), refusal("NoDeed"))
        # With as many as there may be, what was done can still be undone and done again.
        desk = desk_with(full[1:], "found", "undo", "redo", "over", "undo", "redo")
        self.assertEqual(desk.lying(), other_by_steps(full))

    def test_crossed(self):
        desk = desk_with([[], [-2, 1, 2, -1]], "put 5 1 .", "undo")
        for line in ("sheet", "colours"):
            self.assertEqual(answer(desk.asked, line), refusal("Crossed", one=2, two=1))
            self.assertEqual(desk.lying(), [[], [-2, 1, 2, -1]])
        self.assertEqual(desk.asked("redo"), ["-5", "-2 1 5 2 -1"])

    def test_no_deed_leaves_the_desk_as_it_was(self):
        desk = Desk(ROWS)
        desk.asked("cut 1")
        self.assertEqual(answer(desk.asked, "redo"), refusal("NoDeed"))
        self.assertEqual(desk.asked("undo"), [".", "-2 -1", "1 2"])
        self.assertEqual(answer(desk.asked, "undo"), refusal("NoDeed"))
        self.assertEqual(desk.asked("redo"), [".", "-2", "2"])


class ManyLinesTest(unittest.TestCase):

    def test_held_against_a_row_of_maps(self):
        seen = {}
        for seed in range(660, 690):
            dice = random.Random(seed)
            start = chain_end(seed, 15)[1]
            desk, row = Desk(rows_of(start)), MapsInARow(start)
            for _ in range(60):
                change = some_change(dice, row.lies())
                words = ["undo", "undo", "redo", "over", "bad", "ask"]
                line = dice.choice(words + [line_of(change)] * 6)
                if line == "bad":
                    self.assertEqual(answer(desk.asked, dice.choice(BAD_LINES)), refusal("BadLine"))
                elif line == "ask":
                    asked = dice.choice(["map", "lands", "counts", "bridges", "doors", "sheet", "colours"])
                    self.assertEqual(answer(desk.asked, asked), asks_of(row.lies())[asked])
                else:
                    told = row.line(line, change)
                    self.assertEqual(answer(desk.asked, line), told or rows_of(row.lies()))
                    kind = (line.split()[0], told and told[1])
                    seen[kind] = seen.get(kind, 0) + 1
                self.assertEqual(desk.lying(), row.lies())
        for word in ("put", "cut", "part", "draw", "found", "raze", "undo", "redo", "over"):
            self.assertGreater(seen[(word, None)], 10, word)
        self.assertGreater(seen[("undo", "NoDeed")], 2)
        self.assertGreater(seen[("redo", "NoDeed")], 2)


class OwnAndSameTest(unittest.TestCase):

    def test_rows_handed_in_stay_and_may_be_changed_afterwards(self):
        rows = list(ROWS)
        desk = Desk(rows)
        self.assertEqual(rows, ROWS)
        rows[0] = "spoilt"
        rows.append("spoilt")
        self.assertEqual(desk.lying(), MAP)
        self.assertEqual(desk.asked("map"), [".", "-2 -1", "1 2"])

    def test_the_map_told_may_be_changed(self):
        desk = Desk(ROWS)
        for line in ("map", "put 5 1 .", "over", "undo", "redo", "cut 5"):
            desk.asked(line)
            first = desk.lying()
            expected = [list(turn) for turn in first]
            for turn in first:
                turn.append("spoilt")
            first.reverse()
            first.append("spoilt")
            self.assertEqual(desk.lying(), expected)
            self.assertEqual(desk.asked("map"), rows_of(expected))

    def test_no_map_is_told_twice(self):
        desk = Desk(ROWS)
        one, two = desk.lying(), desk.lying()
        self.assertEqual(len({id(thing) for m in (one, two) for thing in [m] + m}), 2 + 2 * len(MAP))

    def test_the_texts_told_may_be_changed(self):
        desk, other = Desk(ROWS), Desk(ROWS)
        for line in ("map", "lands", "counts", "bridges", "doors", "sheet", "colours", "put 5 1 .", "sheet", "over",
                     "undo", "redo", "over", "found", "raze", "cut 5", "draw 1", "map", "sheet", "colours", "undo"):
            with self.subTest(line=line):
                told = desk.asked(line)
                self.assertEqual(type(told), list)
                self.assertLessEqual({type(text) for text in told}, {str})
                self.assertEqual(told, other.asked(line))
                told[:] = ["spoilt"] * 5
                self.assertEqual(desk.lying(), other.lying())

    def test_a_map_told_stays_as_it_was_whatever_is_done_later(self):
        desk = Desk(ROWS)
        told, texts = desk.lying(), desk.asked("map")
        for line in ("put 5 1 .", "cut 2", "over", "undo", "undo", "redo"):
            desk.asked(line)
        self.assertEqual((told, texts), (MAP, [".", "-2 -1", "1 2"]))

    def test_told_alike_when_asked_again(self):
        desk = Desk(["-2 2 -1", "1", "."])
        lines = ("map", "lands", "counts", "bridges", "doors", "sheet", "colours")
        first = [desk.asked(line) for line in lines]
        for between in (["found", "undo"], ["over", "over"], ["cut 1", "undo", "redo", "undo"]):
            for line in between:
                desk.asked(line)
            self.assertEqual([desk.asked(line) for line in reversed(lines)][::-1], first)

    def test_desks_know_nothing_of_each_other(self):
        one, two = Desk(ROWS), Desk(ROWS)
        one.asked("cut 1")
        self.assertEqual(two.lying(), MAP)
        self.assertEqual(answer(two.asked, "undo"), refusal("NoDeed"))
        two.asked("raze")
        self.assertEqual(one.asked("undo"), [".", "-2 -1", "1 2"])
        self.assertEqual(two.asked("undo"), [".", "-2 -1", "1 2"])


if __name__ == "__main__":
    unittest.main()
