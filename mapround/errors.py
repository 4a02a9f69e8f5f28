"""The refusals. Each has a class of its own, right under MapError.

A number that was handed in is a field and never a part of the words: it may
be longer than Python is willing to write out.
"""


class MapError(ValueError):
    """Any refusal."""


class NoEnd(MapError):
    """A number is no road end."""

    def __init__(self, end):
        MapError.__init__(self, "a number is no road end")
        self.end = end


class Twice(MapError):
    """A road end is told that was told before."""

    def __init__(self, end):
        MapError.__init__(self, "a road end is told twice")
        self.end = end


class Lone(MapError):
    """The other end of a road end is missing."""

    def __init__(self, end):
        MapError.__init__(self, "the other end of a road end is missing")
        self.end = end


class NotThere(MapError):
    """The map has not that road end."""

    def __init__(self, end):
        MapError.__init__(self, "the map has not that road end")
        self.end = end


class Taken(MapError):
    """The map has that road already."""

    def __init__(self, road):
        MapError.__init__(self, "the map has that road already")
        self.road = road


class BadRow(MapError):
    """A text does not tell a place."""

    def __init__(self, row):
        MapError.__init__(self, "a text does not tell a place")
        self.row = row


class Crossed(MapError):
    """Two roads of the map cross."""

    def __init__(self, one, two):
        MapError.__init__(self, "two roads of the map cross")
        self.one = one
        self.two = two


class TooMany(MapError):
    """The map would have too many road ends or places without roads."""


class NoPlace(MapError):
    """There is no place without roads left."""


class NotOnePiece(MapError):
    """The map has another number of pieces than one."""


class TooBig(MapError):
    """The map has too many places to be tried."""


class NoDeed(MapError):
    """There is no change to undo or to do again."""


class BadLine(MapError):
    """A line asks nothing that the desk knows."""
