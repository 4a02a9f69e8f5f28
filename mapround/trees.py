"""Small maps tried with any number of colours, and the trees of what was tried in vain."""

from mapround.colours import neighbours
from mapround.errors import TooBig

MOST_PLACES = 8


def allowed(colours, many):
    """The colours that the place behind those of these colours may get, in their order."""
    # A new colour is always the next one, so that colours that only change their
    # names are not tried again.
    return list(range(min(many, len(set(colours)) + 1)))


def clashing(near, colours, colour):
    """The least place of this colour among the neighbours that have one, or None."""
    return min([there for there in near if there < len(colours) and colours[there] == colour], default=None)


def first_fit(near, many, colours):
    """The first list that begins with these colours and in which nothing clashes, or None."""
    place = len(colours)
    if place == len(near):
        return colours
    for colour in allowed(colours, many):
        if clashing(near[place], colours, colour) is None:
            found = first_fit(near, many, colours + [colour])
            if found is not None:
                return found
    return None


def tree_behind(near, many, colours):
    """The tree of the place behind those of these colours, where no list of colours fits."""
    place = len(colours)
    branches = []
    for colour in allowed(colours, many):
        what = clashing(near[place], colours, colour)
        if what is None:
            what = tree_behind(near, many, colours + [colour])
        branches.append((colour, what))
    return branches


def tried(m, many):
    """The first list of colours that fits a small map, or the tree that shows that none does."""
    if len(m) > MOST_PLACES:
        raise TooBig()
    near = neighbours(m)
    colours = first_fit(near, many, [])
    if colours is not None:
        return ("colours", colours)
    return ("none", tree_behind(near, many, []))


def least(m):
    """The least number of colours of a small map, the colours, and the tree for one colour less."""
    many = 0
    tree = []
    found = tried(m, many)
    while found[0] == "none":
        tree = found[1]
        many += 1
        found = tried(m, many)
    return (many, found[1], tree)
