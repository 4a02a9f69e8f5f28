"""The walk round a tree of the roads of a map, and the roads that cross along it."""

from mapround.errors import Crossed
from mapround.pieces import pieces, refuse_not_one_piece
from mapround.turns import nexts, places_at


def walk(m):
    """The walk of a map of one piece: each end once, with the word down, up or side."""
    refuse_not_one_piece(m)
    if len(m[0]) == 0:
        return []
    place_of = places_at(m)
    following = nexts(m)
    came_by = {0: None}
    things = []
    end = m[0][0]
    while len(things) < len(following):
        there = place_of[-end]
        if end == came_by[place_of[end]]:
            things.append(("up", end))
            end = following[-end]
        elif there not in came_by:
            came_by[there] = -end
            things.append(("down", end))
            end = following[-end]
        else:
            things.append(("side", end))
            end = following[end]
    return things


def first_crossing(things):
    """The two roads that cross first along a walk, or None."""
    waiting = []
    for word, end in things:
        road = abs(end)
        if word == "side" and road not in waiting:
            waiting.append(road)
        elif word == "side":
            # Those opened behind it stand behind it, so all is well where it is the last one.
            last = waiting.pop()
            if last != road:
                return (road, last)
    return None


def crossing(m):
    """Two roads that cross, in the first piece that has such ones, or None."""
    for piece in pieces(m):
        found = first_crossing(walk(piece))
        if found is not None:
            return found
    return None


def refuse_crossed(m):
    """Refuse a map with handles, by two of its roads that cross."""
    found = crossing(m)
    if found is not None:
        raise Crossed(found[0], found[1])
