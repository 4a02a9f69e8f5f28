"""The pieces of a map, and maps joined to one."""

from mapround.errors import NotOnePiece
from mapround.turns import map_of, places_at


def reached(m, start):
    """The numbers of all places to which one can go by roads from the place start, sorted."""
    place_of = places_at(m)
    known = {start: True}
    waiting = [start]
    while len(waiting) > 0:
        here = waiting.pop()
        for end in m[here]:
            there = place_of[-end]
            if there not in known:
                known[there] = True
                waiting.append(there)
    return sorted(known)


def pieces(m):
    """The pieces as maps, in the order of their first places."""
    known = {}
    found = []
    for start in range(len(m)):
        if start not in known:
            places = reached(m, start)
            for place in places:
                known[place] = True
            found.append([list(m[place]) for place in places])
    return found


def refuse_not_one_piece(m):
    """Refuse a map of another number of pieces than one."""
    if len(pieces(m)) != 1:
        raise NotOnePiece()


def joined(maps):
    """One map of all turns of the maps; refused where they are no map together."""
    turns = []
    for m in maps:
        turns.extend(m)
    return map_of(turns)
