"""The lands of a map, its other map, its handles and the mirrored map."""

from mapround.errors import NotThere
from mapround.pieces import pieces
from mapround.turns import ends_of, in_good_order, nexts, roads_of, turned


def onwards(m):
    """For each end the end onward of it."""
    following = nexts(m)
    steps = {}
    for end in following:
        steps[end] = following[-end]
    return steps


def onward(m, end):
    """The end onward: the one after the other end of this one's road."""
    steps = onwards(m)
    if end not in steps:
        raise NotThere(end)
    return steps[end]


def gone_round(steps, end):
    """The ends by which one goes onward from an end until one comes to it again."""
    ends = [end]
    step = steps[end]
    while step != end:
        ends.append(step)
        step = steps[step]
    return ends


def land_of(m, end):
    """The land that is gone round by this end, as a turn in good order."""
    steps = onwards(m)
    if end not in steps:
        raise NotThere(end)
    return turned(gone_round(steps, end))


def lands(m):
    """The other map: its turns are the lands of the map."""
    steps = onwards(m)
    known = {}
    # Each place without roads has a land without ends.
    found = [[] for turn in m if len(turn) == 0]
    for start in ends_of(m):
        if start not in known:
            land = gone_round(steps, start)
            for end in land:
                known[end] = True
            found.append(land)
    return in_good_order(found)


def counts(m):
    """How many places, roads, lands, pieces and handles the map has."""
    place_count = len(m)
    road_count = len(roads_of(m))
    land_count = len(lands(m))
    piece_count = len(pieces(m))
    handle_count = (2 * piece_count - place_count + road_count - land_count) // 2
    return (place_count, road_count, land_count, piece_count, handle_count)


def handles(m):
    """How many handles the map needs."""
    return counts(m)[4]


def mirror(m):
    """The map with each turn the other way round."""
    return in_good_order([list(reversed(turn)) for turn in m])
