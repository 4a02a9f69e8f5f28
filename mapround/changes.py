"""The changes of a map, those that lead back from them, and lists of changes."""

from mapround.lands import lands
from mapround.moves import first_ahead, second_ahead, with_place, with_road, without_place, without_road


class Change:
    """Any change. The classes under it tell what is done."""

    def __eq__(self, thing):
        """Whether both have the same words, so that a change that is told again is equal."""
        return isinstance(thing, Change) and self.told() == thing.told()

    def done(self, m):
        """The map behind the change, m being the map ahead of it."""
        raise NotImplementedError()

    def back(self, m):
        """The change that leads back to m, refused as this one is when it is done to m."""
        raise NotImplementedError()

    def other(self):
        """The change that does to the other map what this one does to the map."""
        raise NotImplementedError()

    def told(self):
        """The words of the change."""
        raise NotImplementedError()


class Put(Change):
    """A new road is put in."""

    def __init__(self, road, first, second):
        self.road = road
        self.first = first
        self.second = second

    def done(self, m):
        return with_road(m, self.road, self.first, self.second)

    def back(self, m):
        refuse_as_done(self, m)
        return Cut(self.road)

    def other(self):
        return Part(self.road, self.first, self.second)

    def told(self):
        return ("put", self.road, self.first, self.second)


class Cut(Change):
    """A road is taken out."""

    def __init__(self, road):
        self.road = road

    def done(self, m):
        return without_road(m, self.road)

    def back(self, m):
        refuse_as_done(self, m)
        return Put(self.road, first_ahead(m, self.road), second_ahead(m, self.road))

    def other(self):
        return Draw(self.road)

    def told(self):
        return ("cut", self.road)


class Part(Change):
    """A new road is put into the other map: a place is parted, or two become one."""

    def __init__(self, road, first, second):
        self.road = road
        self.first = first
        self.second = second

    def done(self, m):
        return done_over(self, m)

    def back(self, m):
        return back_over(self, m)

    def other(self):
        return Put(self.road, self.first, self.second)

    def told(self):
        return ("part", self.road, self.first, self.second)


class Draw(Change):
    """A road is taken out of the other map: it is drawn together."""

    def __init__(self, road):
        self.road = road

    def done(self, m):
        return done_over(self, m)

    def back(self, m):
        return back_over(self, m)

    def other(self):
        return Cut(self.road)

    def told(self):
        return ("draw", self.road)


class Found(Change):
    """One more place without roads."""

    def done(self, m):
        return with_place(m)

    def back(self, m):
        refuse_as_done(self, m)
        return Raze()

    def other(self):
        return Found()

    def told(self):
        return ("found",)


class Raze(Change):
    """One place without roads less."""

    def done(self, m):
        return without_place(m)

    def back(self, m):
        refuse_as_done(self, m)
        return Found()

    def other(self):
        return Raze()

    def told(self):
        return ("raze",)


def refuse_as_done(change, m):
    """Refuse what the change refuses when it is done to the map."""
    change.done(m)


def done_over(change, m):
    """The map whose other map the other change makes of the other map of m."""
    return lands(change.other().done(lands(m)))


def back_over(change, m):
    """The change that leads back, by way of the one that does so in the other map."""
    return change.other().back(lands(m)).other()


def done_all(m, changes):
    """The map behind all changes, done one after another."""
    # A copy, so that of no changes the asker gets a map of its own too.
    behind = [list(turn) for turn in m]
    for change in changes:
        behind = change.done(behind)
    return behind


def back_all(m, changes):
    """The changes that lead back from behind all changes, what leads back from the last one first."""
    backs = []
    ahead = m
    for change in changes:
        backs.append(change.back(ahead))
        ahead = change.done(ahead)
    return list(reversed(backs))
