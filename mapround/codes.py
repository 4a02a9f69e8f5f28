"""The rounds of road ends and their codes, and the codes of maps."""

from mapround.errors import NotThere
from mapround.pieces import pieces, refuse_not_one_piece
from mapround.turns import ends_of, places_at, told_ends


def turn_from(turn, end):
    """The turn told from this end on."""
    start = turn.index(end)
    return turn[start:] + turn[:start]


def round_turns(m, end):
    """The turns of the round of an end, in the order in which they are put into it."""
    place_of = places_at(m)
    if end not in place_of:
        raise NotThere(end)
    turns = [turn_from(m[place_of[end]], end)]
    ends = list(turns[0])
    # A turn comes in as a whole, so an end is in the round just where its place is.
    known = {place_of[end]: True}
    spot = 0
    while spot < len(ends):
        other = -ends[spot]
        there = place_of[other]
        if there not in known:
            known[there] = True
            turns.append(turn_from(m[there], other))
            ends.extend(turns[-1])
        spot += 1
    return turns


def round_ends(m, end):
    """The round of an end: all ends of its piece, told from this one on."""
    return told_ends(round_turns(m, end))


def code_of(turns):
    """The code of the round that has these turns: for each end where its other end stands."""
    spots = {}
    for spot, end in enumerate(told_ends(turns)):
        spots[end] = spot
    return tuple([turn_code(spots, turn) for turn in turns])


def turn_code(spots, turn):
    """The part of a code that one turn has, spots being where the ends stand in the round."""
    return tuple([spots[-end] for end in turn])


def round_code(m, end):
    """The code of the round of an end."""
    return code_of(round_turns(m, end))


def least_round(m):
    """Of a map of one piece the round of the least end whose round has the map's code."""
    ends = ends_of(m)
    if len(ends) == 0:
        return []
    # Of several ends of the least code the first one is given, and the ends are sorted.
    return round_ends(m, min(ends, key=lambda end: round_code(m, end)))


def least_code(m):
    """The code of a map of one piece: the least code of a round."""
    refuse_not_one_piece(m)
    ends = ends_of(m)
    if len(ends) == 0:
        return code_of(m)
    return min([round_code(m, end) for end in ends])


def codes(m):
    """The codes of the pieces of the map, sorted."""
    return sorted([least_code(piece) for piece in pieces(m)])
