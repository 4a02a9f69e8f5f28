"""Bridges, doors, and maps that fall apart at a place."""

from mapround.moves import thinned
from mapround.pieces import reached
from mapround.turns import in_good_order, places_at, roads_of


def without_roads(m, roads):
    """The turns without the ends of these roads, each place at its number; nothing is refused."""
    gone = roads + [-road for road in roads]
    return [thinned(turn, gone) for turn in m]


def is_bridge(m, road):
    """Whether one can't go from one end of the road to its other one without it."""
    place_of = places_at(m)
    return place_of[-road] not in reached(without_roads(m, [road]), place_of[road])


def bridges(m):
    """The roads that are bridges, sorted."""
    return [road for road in roads_of(m) if is_bridge(m, road)]


def groups(m, place):
    """The roads with an end at the place, in groups that hang together past it."""
    place_of = places_at(m)
    past = without_roads(m, [abs(end) for end in m[place]])
    loops = []
    hanging = {}
    for end in m[place]:
        there = place_of[-end]
        if there != place:
            # Roads hang together where they lead to places that are one piece without the
            # place; the first place of that piece stands for it.
            hanging.setdefault(reached(past, there)[0], []).append(abs(end))
        elif end > 0:
            loops.append([end])
    return sorted(loops + [sorted(roads) for roads in hanging.values()])


def doors(m):
    """The numbers of the places whose roads are in two groups or more, sorted."""
    return [place for place in range(len(m)) if len(groups(m, place)) >= 2]


def only_roads(turn, roads):
    """The ends of the turn that are ends of these roads, in their order."""
    return [end for end in turn if abs(end) in roads]


def fallen(m, place):
    """The map with one place for each group instead of the place."""
    if len(m[place]) == 0:
        return in_good_order(m)
    parts = [only_roads(m[place], roads) for roads in groups(m, place)]
    return in_good_order(m[:place] + parts + m[place + 1:])
