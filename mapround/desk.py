"""A desk on which a map lies, of which lines are asked."""

from mapround.changes import Cut, Draw, Found, Part, Put, Raze
from mapround.colours import coloured
from mapround.doors import bridges, doors
from mapround.errors import BadLine, NoDeed
from mapround.lands import counts, lands
from mapround.sheets import drawing
from mapround.texts import BARE_PLACE, is_written_end, read, shown


def is_road(word):
    """Whether the word is a road as a line has it: a road end above 0."""
    return is_written_end(word) and not word.startswith("-")


def is_spot(word):
    """Whether the word tells where an end is put: behind a road end, or alone."""
    return word == BARE_PLACE or is_written_end(word)


def spot_in(word):
    """The road end that a rightly written word tells, or None."""
    if word == BARE_PLACE:
        return None
    return int(word)


def change_of_road(word, road):
    """The change that is told by its word and a road alone, or None."""
    if word == "cut":
        return Cut(road)
    if word == "draw":
        return Draw(road)
    return None


def change_with_spots(word, road, first, second):
    """The change that is told by its word, a road and two spots, or None."""
    if word == "put":
        return Put(road, first, second)
    if word == "part":
        return Part(road, first, second)
    return None


def change_in(words):
    """The change that the words of a line tell, or None where they tell none."""
    if words == ["found"]:
        return Found()
    if words == ["raze"]:
        return Raze()
    if len(words) == 2 and is_road(words[1]):
        return change_of_road(words[0], int(words[1]))
    if len(words) == 4 and is_road(words[1]) and is_spot(words[2]) and is_spot(words[3]):
        return change_with_spots(words[0], int(words[1]), spot_in(words[2]), spot_in(words[3]))
    return None


def in_a_row(numbers):
    """One text of the numbers, with one blank between two."""
    return " ".join([str(number) for number in numbers])


def told_of(m, line):
    """The texts that a line asks for that changes nothing; refused where it is no such line."""
    if line == "map":
        return shown(m)
    if line == "lands":
        return shown(lands(m))
    if line == "counts":
        return [in_a_row(counts(m))]
    if line == "bridges":
        return [in_a_row(bridges(m))]
    if line == "doors":
        return [in_a_row(doors(m))]
    if line == "sheet":
        return drawing(m)
    if line == "colours":
        return [in_a_row(coloured(m)[0])]
    raise BadLine()


def others_of(deeds):
    """For each deed what it is in the other map."""
    return [(change.other(), back.other()) for change, back in deeds]


class Desk:
    """A desk with a map, the deeds that can be undone and those that can be done again.

    A deed is a tuple of a change and the one that leads back from it. In both lists
    the one that comes next stands last.
    """

    def __init__(self, rows):
        self.ground = read(rows)
        self.deeds = []
        self.undone = []

    def lying(self):
        """The map that lies on the desk."""
        return [list(turn) for turn in self.ground]

    def asked(self, line):
        """The texts that the line asks for, behind what it does."""
        change = change_in(line.split(" "))
        if change is not None:
            self.make(change)
        elif line == "undo":
            self.undo()
        elif line == "redo":
            self.redo()
        elif line == "over":
            self.turn_over()
        else:
            return told_of(self.ground, line)
        return shown(self.ground)

    def make(self, change):
        """Do a change of its own; what was undone is forgotten."""
        # Both are asked ahead of what is kept, since a refusal leaves the desk as it was.
        back = change.back(self.ground)
        self.ground = change.done(self.ground)
        self.deeds.append((change, back))
        self.undone = []

    def undo(self):
        """Take the last deed back."""
        if len(self.deeds) == 0:
            raise NoDeed()
        back = self.deeds[-1][1]
        self.ground = back.done(self.ground)
        self.undone.append(self.deeds.pop())

    def redo(self):
        """Do the deed again that was undone last."""
        if len(self.undone) == 0:
            raise NoDeed()
        change = self.undone[-1][0]
        self.ground = change.done(self.ground)
        self.deeds.append(self.undone.pop())

    def turn_over(self):
        """Let the other map lie there, with all deeds as they are in it."""
        self.ground = lands(self.ground)
        self.deeds = others_of(self.deeds)
        self.undone = others_of(self.undone)
